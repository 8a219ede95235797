package distort

import (
	"slices"

	"martensite/api"
)

// natural is a number below 2^288, in words of 32 bits, the highest one first. The powers that are compared are below 10^84, which is too much for an int.
type natural [9]uint32

// times is the product of a number and one from 0 to MaxPart.
func (x natural) times(n int) natural {
	carry := uint64(0)
	for i := len(x) - 1; i >= 0; i-- {
		carry += uint64(x[i]) * uint64(n)
		x[i] = uint32(carry)
		carry >>= 32
	}
	return x
}

// exceeds is whether a number is greater than another one.
func (x natural) exceeds(y natural) bool { return slices.Compare(x[:], y[:]) > 0 }

// small is a number that is an int.
func (x natural) small() int { return int(x[7])<<32 + int(x[8]) }

// powerOf is a power of a number.
func powerOf(base, exponent int) natural {
	x := natural{8: 1}
	for range exponent {
		x = x.times(base)
	}
	return x
}

// partError is the error of a cover or a confidence.
func partError(f api.Frac) api.Errno {
	return firstOf(
		errorIf(f.Den <= 0 || divisor(f.Num, f.Den) != 1, api.ErrForm),
		rangeError(1, api.MaxDistortDen, f.Den),
		rangeError(0, f.Den, f.Num))
}

// countError is the error of a number of parts.
func countError(count int) api.Errno { return rangeError(2, api.MaxDistortCount, count) }

// factorOf is count less count - 1 times the cover, times the denominator of the cover.
func factorOf(count int, cover api.Frac) int {
	return count*cover.Den - (count-1)*cover.Num
}

// doubtOf is what is missing from the confidence to 1, times the denominator of the cover to the power of count. (It is the cover to the power of count - 1, times count less count - 1 times the cover.)
func doubtOf(count int, cover api.Frac) natural {
	return powerOf(cover.Num, count-1).times(factorOf(count, cover))
}

// isEnough is whether the confidence of so many parts is at least this.
func isEnough(count int, cover, confidence api.Frac) bool {
	doubt := doubtOf(count, cover).times(confidence.Den)
	return !doubt.exceeds(powerOf(cover.Den, count).times(confidence.Den - confidence.Num))
}

// ConfidenceOf is the confidence of so many parts for a cover.
func ConfidenceOf(count int, cover api.Frac) (api.Frac, api.Errno) {
	if e := firstOf(countError(count), partError(cover)); e != api.OK {
		return api.Frac{}, e
	}
	whole := powerOf(cover.Den, count)
	// No divisor of the whole but 1 divides a power of the cover's numerator, so the doubt and the whole are reduced by a divisor of the factor, and not by more.
	if whole.exceeds(powerOf(api.MaxPart, 1).times(factorOf(count, cover))) {
		return api.Frac{}, api.ErrLarge
	}
	den := whole.small()
	num := den - doubtOf(count, cover).small()
	n := divisor(num, den)
	if den/n > api.MaxPart {
		return api.Frac{}, api.ErrLarge
	}
	return api.Frac{Num: num / n, Den: den / n}, api.OK
}

// IsEnough is whether the confidence of so many parts for a cover is at least this.
func IsEnough(count int, cover, confidence api.Frac) (bool, api.Errno) {
	if e := firstOf(countError(count), partError(cover), partError(confidence)); e != api.OK {
		return false, e
	}
	return isEnough(count, cover, confidence), api.OK
}

// SampleFor is the minimum number of parts whose confidence for a cover is at least this.
func SampleFor(cover, confidence api.Frac) (int, api.Errno) {
	if e := firstOf(partError(cover), partError(confidence)); e != api.OK {
		return 0, e
	}
	for count := 2; count <= api.MaxDistortCount; count++ {
		if isEnough(count, cover, confidence) {
			return count, api.OK
		}
	}
	return 0, api.ErrNone
}
