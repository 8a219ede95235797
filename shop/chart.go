package shop

import (
	"cmp"
	"slices"

	"martensite/api"
)

// chart is a chart that has no error, or of which this is not known yet.
type chart struct{ api.ShopChart }

// chartOf is the chart that is learned from values.
func chartOf(values []int) chart {
	c := api.ShopChart{Count: len(values)}
	for _, n := range values {
		c.Sum += n
		c.Squares += n * n
	}
	return chart{c}
}

// away is how far a value is from the mean, times the count.
func (c chart) away(value int) int { return c.Count*value - c.Sum }

// spread is the square of the standard deviation, times that of the count.
func (c chart) spread() int { return c.Count*c.Squares - c.Sum*c.Sum }

// isOutside is whether a value is outside.
func (c chart) isOutside(value int) bool {
	d := c.away(value)
	return d*d > 9*c.spread()
}

// chartError is the error of a chart.
func chartError(c chart) api.Errno {
	e := firstOf(
		rangeError(1, api.MaxShopValues, c.Count),
		sizeError(api.MaxShopValues*api.MaxShopValue, c.Sum),
		rangeError(0, api.MaxShopValues*api.MaxShopValue*api.MaxShopValue, c.Squares))
	if e != api.OK {
		return e
	}
	return errorIf(c.spread() < 0, api.ErrClash)
}

// valuesError is the error of values.
func valuesError(values []int) api.Errno {
	return firstOf(
		countError(len(values), 1, api.MaxShopValues),
		sizeError(api.MaxShopValue, values...))
}

// equalSigns is how many signs at the end are equal; 0 if the last one is 0.
func equalSigns(signs []int) int {
	count := 0
	for _, sign := range slices.Backward(signs) {
		if sign == 0 || sign != signs[len(signs)-1] {
			break
		}
		count++
	}
	return count
}

// signals are the signals of the values of a series.
func (c chart) signals(values []int) []int {
	var sides, steps, l []int
	for i, value := range values {
		sides = append(sides, cmp.Compare(c.away(value), 0))
		if i > 0 {
			steps = append(steps, cmp.Compare(value, values[i-1]))
		}
		signal := api.ShopQuiet
		switch {
		case c.isOutside(value):
			signal = api.ShopOutside
		case equalSigns(sides) >= api.ShopSame:
			signal = api.ShopOneSide
		case equalSigns(steps) >= api.ShopTrend-1:
			signal = api.ShopDrift
		}
		l = append(l, signal)
	}
	return l
}

// divisor is the greatest common divisor of two numbers from 0 on.
func divisor(a, b int) int {
	for b != 0 {
		a, b = b, a%b
	}
	return a
}

// ChartOf is the chart that is learned from values.
func ChartOf(values []int) (api.ShopChart, api.Errno) {
	if e := valuesError(values); e != api.OK {
		return api.ShopChart{}, e
	}
	return chartOf(values).ShopChart, api.OK
}

// SignalsOf are the signals of the values of a series by a chart.
func SignalsOf(c api.ShopChart, values []int) ([]int, api.Errno) {
	known := chart{c}
	if e := firstOf(chartError(known), valuesError(values)); e != api.OK {
		return nil, e
	}
	return known.signals(values), api.OK
}

// CapabilityOf is the capability of values within limits.
func CapabilityOf(values []int, limits api.Range) (api.Frac, api.Errno) {
	if e := firstOf(valuesError(values), limitsError(limits)); e != api.OK {
		return api.Frac{}, e
	}
	c := chartOf(values)
	if c.spread() == 0 {
		return api.Frac{}, api.ErrZero
	}
	m := max(0, min(-c.away(limits.Lo), c.away(limits.Hi)))
	num, den := m*m, 9*c.spread()
	common := divisor(num, den)
	f := api.Frac{Num: num / common, Den: den / common}
	if max(f.Num, f.Den) > api.MaxPart {
		return api.Frac{}, api.ErrLarge
	}
	return f, api.OK
}
