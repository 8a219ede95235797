package shop_test

import (
	"math/big"
	"math/rand"
	"slices"
	"testing"

	"martensite/api"
	"martensite/shop"
)

// badValues are values with an error.
type badValues struct {
	l []int
	e api.Errno
}

// allBadValues are values with errors.
func allBadValues() []badValues {
	l := []badValues{
		{nil, api.ErrShape},
		{ints(), api.ErrShape},
		{make([]int, 41), api.ErrLarge},
		{slices.Repeat(ints(10001), 41), api.ErrLarge},
	}
	for _, n := range append(extremes(), -10001, 10001) {
		l = append(l, badValues{ints(n), api.ErrRange}, badValues{ints(1, n), api.ErrRange}, badValues{append(make([]int, 39), n), api.ErrRange})
	}
	return l
}

// badLimits are limits with an error.
type badLimits struct {
	r api.Range
	e api.Errno
}

// allBadLimits are limits with errors.
func allBadLimits() []badLimits {
	l := []badLimits{{span(1, 0), api.ErrOrder}, {span(10000, -10000), api.ErrOrder}, {span(10001, 0), api.ErrRange}, {span(0, -10001), api.ErrRange}}
	for _, n := range append(extremes(), -10001, 10001) {
		l = append(l, badLimits{span(n, 0), api.ErrRange}, badLimits{span(0, n), api.ErrRange}, badLimits{span(n, n), api.ErrRange})
	}
	return l
}

// P9.4, example 6
func TestChartOf(t *testing.T) {
	for _, x := range []struct {
		values []int
		c      api.ShopChart
	}{
		{ints(9, 10, 11), chart(3, 30, 302)},
		{ints(0), chart(1, 0, 0)},
		{ints(-3, 1), chart(2, -2, 10)},
		{slices.Repeat(ints(10000), 40), chart(40, 400000, 4000000000)},
		{slices.Repeat(ints(-10000), 40), chart(40, -400000, 4000000000)},
	} {
		c, e := shop.ChartOf(x.values)
		want(t, "ChartOf", c, e, x.c, api.OK)
	}
	for _, x := range allBadValues() {
		c, e := shop.ChartOf(x.l)
		want(t, "ChartOf", c, e, api.ShopChart{}, x.e)
		for _, r := range []api.Range{span(0, 1), span(1, 0)} {
			f, e := shop.CapabilityOf(x.l, r)
			want(t, "CapabilityOf", f, e, api.Frac{}, x.e)
		}
		for _, c := range []api.ShopChart{chart(3, 30, 302), chart(1, 0, 0)} {
			l, e := shop.SignalsOf(c, x.l)
			want(t, "SignalsOf", l, e, ints(), x.e)
		}
	}
}

// P9.4: the errors of a chart
func TestErrorsOfCharts(t *testing.T) {
	l := []api.ShopChart{chart(0, 0, 0), chart(0, 1, 0), chart(41, 0, 0), chart(40, 400001, 4000000000), chart(40, -400001, 4000000000), chart(40, 0, 4000000001), chart(3, 30, -1)}
	for _, n := range extremes() {
		l = append(l, chart(n, 0, 0), chart(3, n, 302), chart(3, 30, n), chart(n, n, n))
	}
	for _, c := range l {
		for _, values := range [][]int{nil, ints(1)} {
			signals, e := shop.SignalsOf(c, values)
			want(t, "SignalsOf", signals, e, ints(), api.ErrRange)
		}
	}
	for _, c := range []api.ShopChart{chart(3, 30, 299), chart(1, 1, 0), chart(1, -400000, 4000000000), chart(40, 400000, 3999999999), chart(40, 1, 0)} {
		for _, values := range [][]int{nil, ints(1)} {
			signals, e := shop.SignalsOf(c, values)
			want(t, "SignalsOf", signals, e, ints(), api.ErrClash)
		}
	}
	for _, c := range []api.ShopChart{chart(3, 30, 300), chart(1, 0, 0), chart(40, 400000, 4000000000), chart(40, -400000, 4000000000), chart(1, 0, 4000000000)} {
		_, e := shop.SignalsOf(c, ints(1))
		want(t, "SignalsOf", 0, e, 0, api.OK)
	}
}

// P9.4, examples 6 and 7, edge cases of the mean and of equal values
func TestSignalsOf(t *testing.T) {
	// The mean of the wide chart is 10, and no value from -89 to 109 is outside.
	narrow, wide, flat := chart(3, 30, 302), chart(1, 10, 1200), chart(2, 20, 200)
	const quiet, outside, side, drift = api.ShopQuiet, api.ShopOutside, api.ShopOneSide, api.ShopDrift
	for _, x := range []struct {
		c               api.ShopChart
		values, signals []int
	}{
		{narrow, ints(14), ints(outside)},
		{narrow, ints(12, 8, 13, 7), ints(quiet, quiet, outside, outside)},
		{narrow, ints(14, 12, 8, 9, 10, 11, 12), ints(outside, 0, 0, 0, 0, 0, drift)},
		{narrow, ints(11, 11, 11, 11, 11, 11, 11), ints(0, 0, 0, 0, 0, 0, side)},
		{narrow, ints(9, 9, 9, 9, 9, 9, 9, 9), ints(0, 0, 0, 0, 0, 0, side, side)},
		{narrow, ints(11, 11, 11, 10, 11, 11, 11, 11, 11, 11, 12), ints(0, 0, 0, 0, 0, 0, 0, 0, 0, 0, side)},
		{narrow, ints(11, 11, 11, 9, 11, 11, 11, 11), ints(0, 0, 0, 0, 0, 0, 0, 0)},
		{narrow, slices.Repeat(ints(10), 9), make([]int, 9)},
		{narrow, ints(9, 10, 11, 12, 12), ints(0, 0, 0, 0, 0)},
		{narrow, ints(8, 9, 10, 11, 12), ints(0, 0, 0, 0, drift)},
		{narrow, ints(12, 11, 10, 9, 8), ints(0, 0, 0, 0, drift)},
		{narrow, ints(12, 11, 10, 9, 8, 7), ints(0, 0, 0, 0, drift, outside)},
		{wide, ints(8, 9, 10, 11, 12, 13), ints(0, 0, 0, 0, drift, drift)},
		{wide, ints(8, 9, 10, 11, 10, 12, 13, 14, 15), ints(0, 0, 0, 0, 0, 0, 0, 0, drift)},
		{wide, ints(8, 9, 10, 11, 11, 12, 13, 14), ints(0, 0, 0, 0, 0, 0, 0, 0)},
		{wide, ints(11, 12, 13, 14, 15, 16, 17, 18), ints(0, 0, 0, 0, drift, drift, side, side)},
		// A value that is outside is one of those that follow one another.
		{narrow, ints(14, 11, 11, 11, 11, 11, 11), ints(outside, 0, 0, 0, 0, 0, side)},
		{narrow, ints(11, 11, 11, 11, 11, 11, 14), ints(0, 0, 0, 0, 0, 0, outside)},
		{narrow, ints(6, 9, 10, 11, 12), ints(outside, 0, 0, 0, drift)},
		{flat, ints(10, 11, 9, 10), ints(0, outside, outside, 0)},
		{chart(40, 400000, 4000000000), ints(10000, 9999, -10000), ints(0, outside, outside)},
	} {
		l, e := shop.SignalsOf(x.c, x.values)
		want(t, "SignalsOf", l, e, x.signals, api.OK)
	}
}

// mean and variance are those of a chart.
func mean(c api.ShopChart) *big.Rat { return rational(c.Sum, c.Count) }
func variance(c api.ShopChart) *big.Rat {
	m := mean(c)
	return m.Sub(rational(c.Squares, c.Count), m.Mul(m, m))
}

// every is whether the last numbers, at least so many, are all of a kind; which is asked by their index.
func every(last, count int, isOf func(int) bool) bool {
	for i := range count {
		if last-i < 0 || !isOf(last-i) {
			return false
		}
	}
	return true
}

// signalOf is the signal of a value of a series.
func signalOf(c api.ShopChart, values []int, i int) int {
	side := func(j int) int { return rational(values[j], 1).Cmp(mean(c)) }
	off := new(big.Rat).Sub(rational(values[i], 1), mean(c))
	nine := new(big.Rat).Mul(rational(9, 1), variance(c))
	switch {
	case off.Mul(off, off).Cmp(nine) > 0:
		return api.ShopOutside
	case every(i, 7, func(j int) bool { return side(j) > 0 }), every(i, 7, func(j int) bool { return side(j) < 0 }):
		return api.ShopOneSide
	case every(i, 4, func(j int) bool { return j > 0 && values[j] > values[j-1] }), every(i, 4, func(j int) bool { return j > 0 && values[j] < values[j-1] }):
		return api.ShopDrift
	}
	return api.ShopQuiet
}

// someSeries are values that are often on one side, and often rise or fall.
func someSeries(random *rand.Rand, most int) []int {
	l := someValues(random, -most, most)
	switch random.Intn(4) {
	case 0:
		for i := range l {
			l[i] = max(l[i], -l[i])
		}
	case 1:
		at := random.Intn(len(l))
		slices.Sort(l[at:])
	case 2:
		at := random.Intn(len(l))
		slices.Sort(l[at:])
		slices.Reverse(l[at:])
	}
	return l
}

// P9.4: signals by the definition
func TestSignalsByDefinition(t *testing.T) {
	random := rand.New(rand.NewSource(96))
	counts := make([]int, api.ShopSignals)
	for i := range 2000 {
		most := ints(6, 50, api.MaxShopValue)[i%3]
		c, _ := shop.ChartOf(someSeries(random, most))
		values := someSeries(random, most)
		signals, e := shop.SignalsOf(c, values)
		var wanted []int
		for i := range values {
			n := signalOf(c, values, i)
			counts[n]++
			wanted = append(wanted, n)
		}
		want(t, "SignalsOf", signals, e, wanted, api.OK)
	}
	for signal, n := range counts {
		if n < 300 {
			t.Errorf("too few signals %d: %d", signal, n)
		}
	}
}

// P9.4, example 8
func TestCapabilityOf(t *testing.T) {
	greatest := slices.Concat(ints(2), slices.Repeat(ints(1), 11), slices.Repeat(ints(-1), 3), make([]int, 15))
	for _, x := range []struct {
		values []int
		r      api.Range
		f      api.Frac
		e      api.Errno
	}{
		{ints(9, 10, 11), span(7, 12), frac(2, 3), api.OK},
		{ints(9, 10, 11), span(8, 13), frac(2, 3), api.OK},
		{ints(9, 10, 11), span(4, 16), frac(6, 1), api.OK},
		{ints(9, 10, 11), span(10, 12), frac(0, 1), api.OK},
		{ints(9, 10, 11), span(8, 10), frac(0, 1), api.OK},
		{ints(9, 10, 11), span(11, 12), frac(0, 1), api.OK},
		{ints(9, 10, 11), span(-9, 9), frac(0, 1), api.OK},
		{ints(-9, -10, -11), span(-12, -7), frac(2, 3), api.OK},
		{ints(0, 1), span(-10000, 10000), frac(399960001, 9), api.OK},
		{ints(1), span(0, 2), api.Frac{}, api.ErrZero},
		{ints(5, 5, 5), span(8, 9), api.Frac{}, api.ErrZero},
		{slices.Repeat(ints(10000), 40), span(0, 10000), api.Frac{}, api.ErrZero},
		{greatest, span(-10000, 6667), frac(1000000000, 99), api.OK},
		{greatest, span(-10000, 6668), api.Frac{}, api.ErrLarge},
		{append(make([]int, 39), 1), span(-10000, 10000), api.Frac{}, api.ErrLarge},
		{append(make([]int, 39), 9973), span(-9000, 10000), api.Frac{}, api.ErrLarge},
		{append(make([]int, 39), 9973), span(-9000, 0), frac(0, 1), api.OK},
	} {
		f, e := shop.CapabilityOf(x.values, x.r)
		want(t, "CapabilityOf", f, e, x.f, x.e)
	}
	for _, x := range allBadLimits() {
		for _, values := range [][]int{ints(9, 10, 11), ints(1)} {
			f, e := shop.CapabilityOf(values, x.r)
			want(t, "CapabilityOf", f, e, api.Frac{}, x.e)
		}
	}
}

// capability is that of values within limits.
func capability(values []int, r api.Range) (api.Frac, api.Errno) {
	var c api.ShopChart
	for _, n := range values {
		c = chart(c.Count+1, c.Sum+n, c.Squares+n*n)
	}
	if variance(c).Sign() == 0 {
		return api.Frac{}, api.ErrZero
	}
	below := new(big.Rat).Sub(mean(c), rational(r.Lo, 1))
	above := new(big.Rat).Sub(rational(r.Hi, 1), mean(c))
	if above.Cmp(below) < 0 {
		below = above
	}
	if below.Sign() < 0 {
		return frac(0, 1), api.OK
	}
	nine := new(big.Rat).Mul(rational(9, 1), variance(c))
	f := below.Mul(below, below).Quo(below, nine)
	most := big.NewInt(api.MaxPart)
	if f.Num().Cmp(most) > 0 || f.Denom().Cmp(most) > 0 {
		return api.Frac{}, api.ErrLarge
	}
	return frac(int(f.Num().Int64()), int(f.Denom().Int64())), api.OK
}

// P9.4: capabilities by the definition
func TestCapabilityByDefinition(t *testing.T) {
	random := rand.New(rand.NewSource(97))
	counts := map[api.Errno]int{}
	for i := range 3000 {
		most := ints(2, 300, api.MaxShopValue)[i%3]
		values, r := someValues(random, -most, most)[:1], someRange(random, -min(3*most, api.MaxShopValue), min(3*most, api.MaxShopValue))
		if i%2 == 0 {
			values = someValues(random, -most, most)
		}
		wanted, g := capability(values, r)
		f, e := shop.CapabilityOf(values, r)
		want(t, "CapabilityOf", f, e, wanted, g)
		counts[e]++
	}
	for _, e := range []api.Errno{api.OK, api.ErrZero, api.ErrLarge} {
		if counts[e] < 100 {
			t.Errorf("too few errors %d: %d", e, counts[e])
		}
	}
}

// P9.11: a chart does not depend on the order of the values, and nothing on a number by which all is shifted
func TestShiftedCharts(t *testing.T) {
	random := rand.New(rand.NewSource(911))
	for range 1000 {
		values, series, r := someValues(random, -9, 9), someSeries(random, 9), someRange(random, -30, 30)
		c, e := shop.ChartOf(values)
		mixed := slices.Clone(values)
		random.Shuffle(len(mixed), func(i, j int) { mixed[i], mixed[j] = mixed[j], mixed[i] })
		d, f := shop.ChartOf(mixed)
		want(t, "ChartOf", d, f, c, e)
		signals, e := shop.SignalsOf(c, series)
		n, f := shop.CapabilityOf(values, r)

		by := random.Intn(19001) - 9500
		for _, l := range [][]int{values, series} {
			for i := range l {
				l[i] += by
			}
		}
		d, g := shop.ChartOf(values)
		want(t, "ChartOf", d.Count, g, c.Count, api.OK)
		others, g := shop.SignalsOf(d, series)
		want(t, "SignalsOf", others, g, signals, e)
		m, g := shop.CapabilityOf(values, span(r.Lo+by, r.Hi+by))
		want(t, "CapabilityOf", m, g, n, f)
	}
}

// R3: no argument is modified
func TestArgumentsOfCharts(t *testing.T) {
	values := ints(11, 9, 10)
	c, _ := shop.ChartOf(values)
	signals, _ := shop.SignalsOf(c, values)
	shop.CapabilityOf(values, span(7, 12))
	signals[0] = 99
	want(t, "values", values, api.OK, ints(11, 9, 10), api.OK)
}
