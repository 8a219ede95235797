package distort_test

import (
	"math"
	"math/big"
	"testing"

	"martensite/api"
	"martensite/distort"
)

// frac is a fraction.
func frac(num, den int) api.Frac { return api.Frac{Num: num, Den: den} }

// parts are all covers and confidences whose denominators have a number as a divisor.
func parts(divisor int) []api.Frac {
	var l []api.Frac
	for den := 1; den <= api.MaxDistortDen; den++ {
		for num := 0; num <= den; num++ {
			if den%divisor == 0 && rational(num, den).Denom().Int64() == int64(den) {
				l = append(l, frac(num, den))
			}
		}
	}
	return l
}

// exactly is the confidence by its definition.
func exactly(count int, cover api.Frac) *big.Rat {
	c := rational(cover.Num, cover.Den)
	power := rational(1, 1)
	for range count - 1 {
		power.Mul(power, c)
	}
	sum := rational(1, 1)
	sum.Sub(sum, new(big.Rat).Mul(rational(count, 1), power))
	power.Mul(power, c)
	return sum.Add(sum, power.Mul(power, rational(count-1, 1)))
}

// badPart is a cover or a confidence with an error.
type badPart struct {
	f api.Frac
	e api.Errno
}

// badParts are covers and confidences with errors.
func badParts() []badPart {
	return []badPart{
		{frac(0, 0), api.ErrForm},
		{frac(1, 0), api.ErrForm},
		{frac(1, -2), api.ErrForm},
		{frac(-1, -2), api.ErrForm},
		{frac(2, 4), api.ErrForm},
		{frac(0, 2), api.ErrForm},
		{frac(3, 3), api.ErrForm},
		{frac(-2, 4), api.ErrForm},
		{frac(4, 2), api.ErrForm},
		{frac(100, 200), api.ErrForm},
		{frac(math.MinInt, 2), api.ErrForm},
		{frac(math.MinInt, math.MinInt), api.ErrForm},
		{frac(1, math.MinInt), api.ErrForm},
		{frac(math.MaxInt, math.MaxInt), api.ErrForm},
		{frac(1, 101), api.ErrRange},
		{frac(1, math.MaxInt), api.ErrRange},
		{frac(-1, 2), api.ErrRange},
		{frac(-1, 1), api.ErrRange},
		{frac(2, 1), api.ErrRange},
		{frac(101, 100), api.ErrRange},
		{frac(math.MinInt, 1), api.ErrRange},
		{frac(math.MinInt, 3), api.ErrRange},
		{frac(math.MaxInt, 1), api.ErrRange},
	}
}

// P6.5: the count, the cover, the confidence
func TestErrorsOfSamples(t *testing.T) {
	half := frac(1, 2)
	for _, count := range []int{1, 0, -1, 41, math.MinInt, math.MaxInt} {
		c, e := distort.ConfidenceOf(count, frac(2, 4))
		want(t, "ConfidenceOf", c, e, api.Frac{}, api.ErrRange)
		is, e := distort.IsEnough(count, frac(2, 4), frac(2, 4))
		want(t, "IsEnough", is, e, false, api.ErrRange)
		is, e = distort.IsEnough(count, half, frac(0, 1))
		want(t, "IsEnough", is, e, false, api.ErrRange)
	}
	for _, x := range badParts() {
		c, e := distort.ConfidenceOf(3, x.f)
		want(t, "ConfidenceOf", c, e, api.Frac{}, x.e)
		for _, other := range badParts() {
			is, e := distort.IsEnough(3, x.f, other.f)
			want(t, "IsEnough", is, e, false, x.e)
			n, e := distort.SampleFor(x.f, other.f)
			want(t, "SampleFor", n, e, 0, x.e)
		}
		is, e := distort.IsEnough(40, half, x.f)
		want(t, "IsEnough", is, e, false, x.e)
		n, e := distort.SampleFor(half, x.f)
		want(t, "SampleFor", n, e, 0, x.e)
	}
}

// P6.5, example 10, edge cases of the covers 0 and 1
func TestConfidenceOf(t *testing.T) {
	for _, x := range []struct {
		count int
		cover api.Frac
		c     api.Frac
		e     api.Errno
	}{
		{2, frac(1, 2), frac(1, 4), api.OK},
		{3, frac(1, 2), frac(1, 2), api.OK},
		{2, frac(0, 1), frac(1, 1), api.OK},
		{40, frac(0, 1), frac(1, 1), api.OK},
		{2, frac(1, 1), frac(0, 1), api.OK},
		{40, frac(1, 1), frac(0, 1), api.OK},
		{2, frac(99, 100), frac(1, 10000), api.OK},
		{4, frac(99, 100), frac(59203, 100000000), api.OK},
		// 2^29 is a denominator, 2^30 is too large, and so is 2^32; of 2^31 with 31 parts 2^26 is left.
		{29, frac(1, 2), frac((1<<29-30)/2, 1<<28), api.OK},
		{30, frac(1, 2), frac(0, 0), api.ErrLarge},
		{31, frac(1, 2), frac(1<<26-1, 1<<26), api.OK},
		{32, frac(1, 2), frac(0, 0), api.ErrLarge},
		{40, frac(1, 2), frac(0, 0), api.ErrLarge},
		{40, frac(9, 10), frac(0, 0), api.ErrLarge},
		{40, frac(99, 100), frac(0, 0), api.ErrLarge},
		{40, frac(1, 100), frac(0, 0), api.ErrLarge},
	} {
		c, e := distort.ConfidenceOf(x.count, x.cover)
		want(t, "ConfidenceOf", c, e, x.c, x.e)
	}
}

// lowest is an exact number as a fraction.
func lowest(x *big.Rat) api.Frac { return frac(int(x.Num().Int64()), int(x.Denom().Int64())) }

// P6.5: by the definition, for all counts
func TestConfidencesByDefinition(t *testing.T) {
	most := big.NewInt(api.MaxPart)
	found := map[api.Errno]int{}
	for _, cover := range append(parts(1)[:300], parts(20)...) {
		for count := 2; count <= api.MaxDistortCount; count++ {
			x, f := exactly(count, cover), api.OK
			c := api.Frac{}
			if x.Denom().Cmp(most) > 0 {
				f = api.ErrLarge
			} else {
				c = lowest(x)
			}
			got, e := distort.ConfidenceOf(count, cover)
			found[e]++
			if got != c || e != f {
				t.Fatalf("ConfidenceOf %d, %v: %v, %d, want %v, %d", count, cover, got, e, c, f)
			}
		}
	}
	if found[api.OK] < 1000 || found[api.ErrLarge] < 1000 {
		t.Errorf("too few confidences: %v", found)
	}
}

// P6.5, example 10 and edge cases
func TestSampleFor(t *testing.T) {
	for _, x := range []struct {
		cover, confidence api.Frac
		n                 int
		e                 api.Errno
	}{
		{frac(1, 2), frac(1, 2), 3, api.OK},
		{frac(1, 2), frac(1, 4), 2, api.OK},
		{frac(1, 2), frac(51, 100), 4, api.OK},
		{frac(1, 2), frac(1, 1), 0, api.ErrNone},
		{frac(0, 1), frac(1, 1), 2, api.OK},
		{frac(1, 1), frac(0, 1), 2, api.OK},
		{frac(1, 1), frac(1, 100), 0, api.ErrNone},
		{frac(9, 10), frac(19, 20), 0, api.ErrNone},
		{frac(9, 10), frac(9, 10), 38, api.OK},
		{frac(1, 100), frac(99, 100), 3, api.OK},
		{frac(1, 100), frac(49, 50), 2, api.OK},
		{frac(99, 100), frac(6, 100), 0, api.ErrForm},
		{frac(99, 100), frac(3, 50), 40, api.OK},
		{frac(99, 100), frac(7, 100), 0, api.ErrNone},
	} {
		n, e := distort.SampleFor(x.cover, x.confidence)
		want(t, "SampleFor", n, e, x.n, x.e)
	}
}

// P6.5, P6.12: by the definition; more parts have no smaller confidence, a greater cover no greater one
func TestEnoughByDefinition(t *testing.T) {
	equal := 0
	for _, cover := range append(parts(1)[:30], parts(25)...) {
		exact := map[int]*big.Rat{}
		for count := 2; count <= api.MaxDistortCount; count++ {
			exact[count] = exactly(count, cover)
		}
		for _, confidence := range append(parts(1)[:100], parts(50)...) {
			limit := rational(confidence.Num, confidence.Den)
			minimum, f := 0, api.ErrNone
			for count := 2; count <= api.MaxDistortCount; count++ {
				compared := exact[count].Cmp(limit)
				is, e := distort.IsEnough(count, cover, confidence)
				if is != (compared >= 0) || e != api.OK || f == api.OK && !is {
					t.Fatalf("IsEnough %d, %v, %v: %v, %d", count, cover, confidence, is, e)
				}
				if compared == 0 {
					equal++
				}
				if is && f != api.OK {
					minimum, f = count, api.OK
				}
			}
			n, e := distort.SampleFor(cover, confidence)
			if n != minimum || e != f {
				t.Fatalf("SampleFor %v, %v: %d, %d, want %d, %d", cover, confidence, n, e, minimum, f)
			}
		}
	}
	if equal < 5 {
		t.Errorf("too few confidences that are just enough: %d", equal)
	}
}

// P6.5: confidences that are just enough
func TestJustEnough(t *testing.T) {
	just := 0
	for _, cover := range parts(1) {
		c, e := distort.ConfidenceOf(2, cover)
		if e != api.OK || c.Den > api.MaxDistortDen {
			continue
		}
		just++
		is, e := distort.IsEnough(2, cover, c)
		want(t, "IsEnough", is, e, true, api.OK)
		n, e := distort.SampleFor(cover, c)
		want(t, "SampleFor", n, e, 2, api.OK)
	}
	if just < 30 {
		t.Errorf("too few confidences: %d", just)
	}
}

// P6.12: a greater cover has no greater confidence
func TestGreaterCovers(t *testing.T) {
	for count := 2; count <= api.MaxDistortCount; count++ {
		for _, confidence := range []api.Frac{frac(1, 100), frac(1, 3), frac(1, 2), frac(9, 10), frac(99, 100)} {
			before := true
			for num := range 98 {
				// 97 is a prime number, so that these are in lowest terms, but for the first and the last one.
				cover := frac(num, 97)
				if num%97 == 0 {
					cover = frac(num/97, 1)
				}
				is, e := distort.IsEnough(count, cover, confidence)
				if e != api.OK || is && !before {
					t.Errorf("IsEnough %d, %v, %v: %v after %v, %d", count, cover, confidence, is, before, e)
				}
				before = is
			}
			if before {
				t.Errorf("IsEnough %d, %v: the cover 1 has no confidence", count, confidence)
			}
		}
	}
}
