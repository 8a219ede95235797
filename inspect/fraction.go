package inspect

import "martensite/api"

// divisor is the greatest common divisor of two numbers.
func divisor(a, b int) int {
	for b != 0 {
		a, b = b, a%b
	}
	return max(a, -a)
}

// lowest is num / den in lowest terms; den is above 0.
func lowest(num, den int) api.Frac {
	n := divisor(num, den)
	return api.Frac{Num: num / n, Den: den / n}
}

// floor is a fraction rounded down.
func floor(f api.Frac) int {
	n := f.Num / f.Den
	if f.Num%f.Den < 0 {
		n--
	}
	return n
}

// ceiling is a fraction rounded up.
func ceiling(f api.Frac) int { return -floor(api.Frac{Num: -f.Num, Den: f.Den}) }

// mixed is a whole number and a part of 1 (from 0 on, less than 1, in lowest terms). The numerator of a sum of fractions may be too great for an int, that of its part of 1 is not.
type mixed struct {
	whole int
	part  api.Frac
}

// mixedOf is num / den; den is above 0.
func mixedOf(num, den int) mixed {
	f := lowest(num, den)
	whole := floor(f)
	return mixed{whole, api.Frac{Num: f.Num - whole*f.Den, Den: f.Den}}
}

// plus is the sum of a number and one whose denominator is at most MaxPart; false only if the denominator of the sum exceeds MaxPart. (It is never false if both denominators are at most MaxPart.)
func (x mixed) plus(y mixed) (mixed, bool) {
	common := divisor(x.part.Den, y.part.Den)
	// What only one of both denominators has is in that of the sum, too.
	own := x.part.Den / common
	if own > api.MaxPart {
		return mixed{}, false
	}
	sum := mixedOf(x.part.Num*(y.part.Den/common)+y.part.Num*own, own*y.part.Den)
	sum.whole += x.whole + y.whole
	return sum, true
}

// fraction is a number as a fraction; false if a part of it exceeds MaxPart.
func (x mixed) fraction() (api.Frac, bool) {
	if sizeError(api.MaxPart, x.whole, x.part.Den) != api.OK {
		return api.Frac{}, false
	}
	num := x.whole*x.part.Den + x.part.Num
	if sizeError(api.MaxPart, num) != api.OK {
		return api.Frac{}, false
	}
	return api.Frac{Num: num, Den: x.part.Den}, true
}
