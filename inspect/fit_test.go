package inspect_test

import (
	"math"
	"math/big"
	"math/rand"
	"slices"
	"testing"

	"martensite/api"
	"martensite/inspect"
)

// pairs is a list of pairs, of which all numbers are given.
func pairs(numbers ...int) []api.InspectPair {
	var l []api.InspectPair
	for x := range slices.Chunk(numbers, 2) {
		l = append(l, api.InspectPair{Signal: x[0], Value: x[1]})
	}
	return l
}

// fit is a fit.
func fit(slope, offset api.Frac, window api.Range, off api.Frac) api.InspectFit {
	return api.InspectFit{Slope: slope, Offset: offset, Window: window, Off: off}
}

// examplePairs are the pairs of the document's examples, exampleFit is their fit.
func examplePairs() []api.InspectPair { return pairs(0, 0, 1, 0, 2, 3) }
func exampleFit() api.InspectFit {
	return fit(frac(3, 2), frac(-1, 2), span(0, 2), whole(1))
}

// badPairs are pairs with an error.
type badPairs struct {
	l []api.InspectPair
	e api.Errno
}

// allBadPairs are pairs with errors.
func allBadPairs() []badPairs {
	l := []badPairs{
		{nil, api.ErrShape},
		{pairs(), api.ErrShape},
		{pairs(1, 2), api.ErrShape},
		{pairs(101, 2), api.ErrShape},
		{make([]api.InspectPair, 11), api.ErrLarge},
		{slices.Repeat(pairs(101, 2), 11), api.ErrLarge},
	}
	for _, n := range []int{-101, 101, math.MinInt, math.MaxInt} {
		l = append(l,
			badPairs{pairs(n, 0, 1, 0), api.ErrRange},
			badPairs{pairs(0, n, 1, 0), api.ErrRange},
			badPairs{pairs(0, 0, n, 0), api.ErrRange},
			badPairs{pairs(0, 0, 1, 0, 2, n), api.ErrRange},
			badPairs{pairs(n, n, n, n), api.ErrRange},
			badPairs{pairs(1, 0, 1, n), api.ErrRange})
	}
	return l
}

// badFit is a fit with an error.
type badFit struct {
	f api.InspectFit
	e api.Errno
}

// badFits are fits with errors.
func badFits() []badFit {
	fits := func(f api.Frac) []api.InspectFit {
		return []api.InspectFit{
			fit(f, frac(-1, 2), span(0, 2), whole(1)),
			fit(frac(3, 2), f, span(0, 2), whole(1)),
			fit(frac(3, 2), frac(-1, 2), span(0, 2), f),
		}
	}
	l := []badFit{
		{api.InspectFit{}, api.ErrForm},
		{fit(whole(1000000001), frac(2, 2), span(101, 2), whole(-1)), api.ErrForm},
		{fit(frac(2, 2), whole(1), span(2, 1), whole(-1)), api.ErrForm},
		{fit(whole(1), whole(1), span(2, 1), whole(-1)), api.ErrRange},
		{fit(whole(1), whole(1), span(0, 1), whole(-1)), api.ErrRange},
		{fit(whole(1), whole(1), span(0, 1), frac(-1, 1000000000)), api.ErrRange},
		{fit(whole(1000000001), whole(1), span(2, 1), whole(1)), api.ErrRange},
		{fit(whole(1), whole(1), span(2, 1), whole(1)), api.ErrOrder},
		{fit(whole(1), whole(1), span(100, -100), whole(0)), api.ErrOrder},
	}
	for _, n := range []int{-101, 101, math.MinInt, math.MaxInt} {
		l = append(l,
			badFit{fit(whole(1), whole(1), span(n, 2), whole(1)), api.ErrRange},
			badFit{fit(whole(1), whole(1), span(0, n), whole(1)), api.ErrRange})
	}
	for _, f := range []api.Frac{{}, frac(1, 0), frac(1, -1), frac(0, 2), frac(2, 4), frac(-2, 4), frac(3, -2), frac(math.MinInt, 2), frac(1, math.MinInt), frac(math.MinInt, -1), frac(math.MaxInt, math.MaxInt), frac(math.MinInt, math.MinInt)} {
		for _, x := range fits(f) {
			l = append(l, badFit{x, api.ErrForm})
		}
	}
	for _, f := range []api.Frac{frac(1000000001, 1), frac(-1000000001, 1), frac(1, 1000000001), frac(math.MinInt, 1), frac(math.MinInt, math.MaxInt), frac(1, math.MaxInt)} {
		for _, x := range fits(f) {
			l = append(l, badFit{x, api.ErrRange})
		}
	}
	return l
}

// P8.6, example 7, edge case of two pairs
func TestFitOf(t *testing.T) {
	for _, x := range []struct {
		l []api.InspectPair
		f api.InspectFit
		e api.Errno
	}{
		{examplePairs(), exampleFit(), api.OK},
		{pairs(2, 3, 0, 0, 1, 0), exampleFit(), api.OK},
		{pairs(3, 7, 5, 8), fit(frac(1, 2), frac(11, 2), span(3, 5), whole(0)), api.OK},
		{pairs(5, 8, 3, 7), fit(frac(1, 2), frac(11, 2), span(3, 5), whole(0)), api.OK},
		{pairs(-100, 100, 100, -100), fit(whole(-1), whole(0), span(-100, 100), whole(0)), api.OK},
		{pairs(99, -100, 100, 100), fit(whole(200), whole(-19900), span(99, 100), whole(0)), api.OK},
		{pairs(1, 4, 2, 4, 9, 4), fit(whole(0), whole(4), span(1, 9), whole(0)), api.OK},
		{pairs(1, 0, 1, 2, 3, 4), fit(frac(3, 2), frac(-1, 2), span(1, 3), whole(1)), api.OK},
		{slices.Repeat(pairs(0, 0, 1, 1), 5), fit(whole(1), whole(0), span(0, 1), whole(0)), api.OK},
		{pairs(1, 1, 1, 2), api.InspectFit{}, api.ErrZero},
		{pairs(0, 0, 0, 0), api.InspectFit{}, api.ErrZero},
		{pairs(-100, 3, -100, 3, -100, 4), api.InspectFit{}, api.ErrZero},
	} {
		f, e := inspect.FitOf(x.l)
		want(t, "FitOf", f, e, x.f, x.e)
	}
	for _, x := range allBadPairs() {
		f, e := inspect.FitOf(x.l)
		want(t, "FitOf", f, e, api.InspectFit{}, x.e)
	}
}

// somePairs are pairs that are at most so great, with at least two signals.
func somePairs(random *rand.Rand, most int) []api.InspectPair {
	for {
		var l []api.InspectPair
		for range 2 + random.Intn(api.MaxInspectPairs-1) {
			l = append(l, api.InspectPair{Signal: someNumber(random, -most, most), Value: someNumber(random, -most, most)})
		}
		if slices.ContainsFunc(l, func(x api.InspectPair) bool { return x.Signal != l[0].Signal }) {
			return l
		}
	}
}

// fits calls a function with random pairs and their fit.
func fits(t *testing.T, count int, do func(*rand.Rand, []api.InspectPair, api.InspectFit)) {
	random := rand.New(rand.NewSource(86))
	for i := range count {
		l := somePairs(random, []int{2, 12, api.MaxInspectPair}[i%3])
		f, e := inspect.FitOf(l)
		if e != api.OK {
			t.Fatalf("FitOf %v: %d", l, e)
		}
		do(random, l, f)
	}
}

// distances are by how much the values of pairs are above a line.
func distances(l []api.InspectPair, slope, offset *big.Rat) []*big.Rat {
	var offs []*big.Rat
	for _, x := range l {
		at := new(big.Rat).Mul(slope, rational(x.Signal, 1))
		at.Add(at, offset)
		offs = append(offs, at.Sub(rational(x.Value, 1), at))
	}
	return offs
}

// squares is the sum of the squares of the distances of pairs from a line.
func squares(l []api.InspectPair, slope, offset *big.Rat) *big.Rat {
	sum := new(big.Rat)
	for _, off := range distances(l, slope, offset) {
		sum.Add(sum, off.Mul(off, off))
	}
	return sum
}

// P8.6, P8.13: both equations, the window and the maximum distance; no line beside it is better
func TestFitsByDefinition(t *testing.T) {
	fits(t, 2000, func(random *rand.Rand, l []api.InspectPair, f api.InspectFit) {
		slope, offset := exact(f.Slope), exact(f.Offset)
		sum, products, most := new(big.Rat), new(big.Rat), new(big.Rat)
		window := span(l[0].Signal, l[0].Signal)
		for i, off := range distances(l, slope, offset) {
			sum.Add(sum, off)
			products.Add(products, new(big.Rat).Mul(off, rational(l[i].Signal, 1)))
			if size := new(big.Rat).Abs(off); size.Cmp(most) > 0 {
				most = size
			}
			window = span(min(window.Lo, l[i].Signal), max(window.Hi, l[i].Signal))
		}
		if sum.Sign() != 0 || products.Sign() != 0 {
			t.Errorf("FitOf %v: %v: an equation does not hold", l, f)
		}
		if f != fit(lowest(slope), lowest(offset), window, lowest(most)) {
			t.Errorf("FitOf %v: %v", l, f)
		}
		least := squares(l, slope, offset)
		for range 20 {
			other := new(big.Rat).Add(slope, rational(random.Intn(7)-3, 1+random.Intn(300)))
			above := new(big.Rat).Add(offset, rational(random.Intn(7)-3, 1+random.Intn(300)))
			same := other.Cmp(slope) == 0 && above.Cmp(offset) == 0
			if compared := squares(l, other, above).Cmp(least); compared < 0 || compared == 0 && !same {
				t.Errorf("FitOf %v: %v, but %v, %v is as good", l, f, other, above)
			}
		}
	})
}

// P8.13: pairs on a straight line
func TestStraightPairs(t *testing.T) {
	random := rand.New(rand.NewSource(813))
	for range 300 {
		slope, offset, den := random.Intn(21)-10, random.Intn(41)-20, 1+random.Intn(4)
		var l []api.InspectPair
		for range 2 + random.Intn(api.MaxInspectPairs-1) {
			n := random.Intn(5) - 2
			l = append(l, api.InspectPair{Signal: n * den, Value: n*slope + offset})
		}
		f, e := inspect.FitOf(l)
		if e == api.ErrZero {
			continue
		}
		if f.Slope != lowest(rational(slope, den)) || f.Offset != whole(offset) || f.Off != whole(0) || e != api.OK {
			t.Errorf("FitOf %v: %v, %d", l, f, e)
		}
	}
}

// P8.6: the errors of CheckFit, and their order
func TestErrorsOfCheckFit(t *testing.T) {
	for _, x := range allBadPairs() {
		for _, f := range []api.InspectFit{exampleFit(), {}, fit(whole(1), whole(1), span(2, 1), whole(-1))} {
			want(t, "CheckFit", 0, inspect.CheckFit(x.l, f), 0, x.e)
		}
	}
	for _, x := range badFits() {
		want(t, "CheckFit", 0, inspect.CheckFit(examplePairs(), x.f), 0, x.e)
		want(t, "CheckFit", 0, inspect.CheckFit(pairs(1, 1, 1, 2), x.f), 0, x.e)
	}
	want(t, "CheckFit", 0, inspect.CheckFit(pairs(1, 1, 1, 2), exampleFit()), 0, api.ErrZero)
	want(t, "CheckFit", 0, inspect.CheckFit(pairs(1, 1, 1, 1), fit(whole(0), whole(1), span(1, 1), whole(0))), 0, api.ErrZero)
}

// P8.6: a fit is accepted, and nothing else
func TestCheckFit(t *testing.T) {
	want(t, "CheckFit", 0, inspect.CheckFit(examplePairs(), exampleFit()), 0, api.OK)
	for _, f := range []api.InspectFit{
		fit(frac(3, 2), frac(-1, 2), span(0, 2), whole(2)),
		fit(frac(3, 2), frac(-1, 2), span(0, 2), frac(1, 2)),
		fit(frac(3, 2), frac(-1, 2), span(0, 2), whole(0)),
		fit(frac(3, 2), frac(-1, 2), span(0, 3), whole(1)),
		fit(frac(3, 2), frac(-1, 2), span(-1, 2), whole(1)),
		fit(frac(3, 2), frac(-1, 2), span(1, 2), whole(1)),
		fit(frac(3, 2), frac(1, 2), span(0, 2), whole(1)),
		fit(frac(-3, 2), frac(-1, 2), span(0, 2), whole(1)),
		// The sum of the distances is 0, that of their products with the signals is not: the line goes through the middle.
		fit(whole(0), whole(1), span(0, 2), whole(2)),
		fit(whole(1), whole(0), span(0, 2), whole(1)),
		// The sum of the products is 0, that of the distances is not.
		fit(whole(0), whole(2), span(0, 2), whole(2)),
		fit(frac(6, 5), whole(0), span(0, 2), frac(6, 5)),
		fit(frac(999999999, 1000000000), frac(999999999, 999999998), span(0, 2), frac(1000000000, 999999999)),
		fit(whole(1000000000), whole(-1000000000), span(0, 2), whole(1000000000)),
		fit(whole(-1000000000), whole(1000000000), span(-100, 100), whole(0)),
	} {
		want(t, "CheckFit", 0, inspect.CheckFit(examplePairs(), f), 0, api.ErrProof)
	}
	fits(t, 1000, func(random *rand.Rand, l []api.InspectPair, f api.InspectFit) {
		want(t, "CheckFit", 0, inspect.CheckFit(l, f), 0, api.OK)
		for i := range 5 {
			g := f
			n := 1 + random.Intn(3)
			switch i {
			case 0:
				g.Slope.Num += n * g.Slope.Den
			case 1:
				g.Offset.Num -= n * g.Offset.Den
			case 2:
				g.Off.Num += n * g.Off.Den
			case 3:
				g.Window.Lo = max(g.Window.Lo-n, -api.MaxInspectPair)
			case 4:
				g.Window.Hi = min(g.Window.Hi+n, api.MaxInspectPair)
			}
			if g != f {
				want(t, "CheckFit", 0, inspect.CheckFit(l, g), 0, api.ErrProof)
			}
		}
	})
}

// extremes are fractions whose parts are up to MaxPart.
func extremes() []api.Frac {
	return []api.Frac{
		whole(0), whole(1), whole(-1), frac(1, 2), frac(-1, 3), frac(5, 6),
		whole(1000000000), whole(-1000000000), whole(999999999), frac(1, 1000000000), frac(-1, 1000000000),
		frac(999999999, 1000000000), frac(-999999999, 1000000000), frac(1000000000, 999999999), frac(-1000000000, 999999999),
		frac(1, 999999937), frac(999999936, 999999937), frac(1, 999999929), frac(-1, 999999929), frac(7, 500000000), frac(7, 250000000),
		frac(1, 65536), frac(65537, 65536), frac(1, 387420489), frac(2, 129140163), frac(1, 195312500), frac(333333333, 1000000000),
	}
}

// predicted is the prediction of a fit at a signal, computed exactly; ErrLarge if a part of it exceeds MaxPart.
func predicted(f api.InspectFit, signal int) (api.Span, api.Errno) {
	line := new(big.Rat).Mul(exact(f.Slope), rational(signal, 1))
	line.Add(line, exact(f.Offset))
	most := big.NewInt(api.MaxPart)
	isLarge := func(x *big.Rat) bool { return x.Num().CmpAbs(most) > 0 || x.Denom().Cmp(most) > 0 }
	lo, hi := new(big.Rat).Sub(line, exact(f.Off)), new(big.Rat).Add(line, exact(f.Off))
	if isLarge(lo) || isLarge(hi) {
		return api.Span{}, api.ErrLarge
	}
	return between(lowest(lo), lowest(hi)), api.OK
}

// P8.6: predictions of fits with great parts, by the definition
func TestGreatPredictions(t *testing.T) {
	found := map[api.Errno]int{}
	for _, slope := range extremes() {
		for _, offset := range extremes() {
			for _, off := range extremes() {
				if off.Num < 0 {
					continue
				}
				f := fit(slope, offset, span(-100, 100), off)
				for _, signal := range []int{0, 1, -1, 7, 64, -81, 100, -100} {
					wanted, g := predicted(f, signal)
					s, e := inspect.PredictedAt(f, signal)
					found[e]++
					if s != wanted || e != g {
						t.Fatalf("PredictedAt %v, %d: %v, %d, want %v, %d", f, signal, s, e, wanted, g)
					}
				}
			}
		}
	}
	if found[api.OK] < 1000 || found[api.ErrLarge] < 1000 {
		t.Errorf("too few predictions: %v", found)
	}
}

// P8.6: predictions whose line has a denominator far above MaxPart, while those of both ends are small, by the definition
func TestCancelledPredictions(t *testing.T) {
	random := rand.New(rand.NewSource(806))
	primes := []int{2, 3, 31, 997, 30011, 31567, 31601, 31607}
	some := func() *big.Rat { return rational(someNumber(random, -300, 300), primes[random.Intn(len(primes))]) }
	great := 0
	for range 20000 {
		// An end is the slope's part and twice one of the two others: the third one is gone.
		slope, one, other := some(), some(), some()
		offset, off := new(big.Rat).Add(one, other), new(big.Rat).Sub(one, other)
		f := fit(lowest(slope), lowest(offset), span(-100, 100), lowest(off.Abs(off)))
		signal := someNumber(random, -100, 100)
		wanted, g := predicted(f, signal)
		s, e := inspect.PredictedAt(f, signal)
		if s != wanted || e != g || e != api.OK {
			t.Fatalf("PredictedAt %v, %d: %v, %d, want %v, %d", f, signal, s, e, wanted, g)
		}
		line := slope.Mul(slope, rational(signal, 1))
		if line.Add(line, offset).Denom().Int64() > api.MaxPart {
			great++
		}
	}
	if great < 1000 {
		t.Errorf("too few great denominators: %d", great)
	}
}

// P8.6, example 7
func TestPredictedAt(t *testing.T) {
	for _, x := range []struct {
		f      api.InspectFit
		signal int
		s      api.Span
		e      api.Errno
	}{
		{exampleFit(), 1, between(whole(0), whole(2)), api.OK},
		{exampleFit(), 0, between(frac(-3, 2), frac(1, 2)), api.OK},
		{exampleFit(), 2, between(frac(3, 2), frac(7, 2)), api.OK},
		{exampleFit(), -1, api.Span{}, api.ErrRange},
		{exampleFit(), 3, api.Span{}, api.ErrRange},
		{exampleFit(), math.MinInt, api.Span{}, api.ErrRange},
		{exampleFit(), math.MaxInt, api.Span{}, api.ErrRange},
		{fit(whole(10000000), whole(0), span(100, 100), whole(0)), 100, between(whole(1000000000), whole(1000000000)), api.OK},
		{fit(whole(-10000000), whole(0), span(100, 100), whole(0)), 100, between(whole(-1000000000), whole(-1000000000)), api.OK},
		{fit(whole(10000000), whole(1), span(100, 100), whole(0)), 100, api.Span{}, api.ErrLarge},
		{fit(whole(10000000), whole(0), span(100, 100), frac(1, 2)), 100, api.Span{}, api.ErrLarge},
		{fit(whole(-10000000), whole(0), span(100, 100), whole(1)), 100, api.Span{}, api.ErrLarge},
		{fit(whole(1000000000), whole(-1000000000), span(2, 2), whole(1000000000)), 2, api.Span{}, api.ErrLarge},
		{fit(whole(1000000000), whole(-1000000000), span(1, 2), whole(1000000000)), 1, between(whole(-1000000000), whole(1000000000)), api.OK},
		{fit(whole(1000000000), whole(0), span(100, 100), whole(0)), 100, api.Span{}, api.ErrLarge},
		{fit(whole(1000000000), whole(0), span(100, 100), whole(0)), 99, api.Span{}, api.ErrRange},
		// The upper end is 1000000001/1000000000, the lower one -999999997/1000000000.
		{fit(frac(1, 1000000000), frac(1, 1000000000), span(1, 1), frac(999999999, 1000000000)), 1, api.Span{}, api.ErrLarge},
		{fit(whole(0), frac(1, 31607), span(0, 0), frac(1, 31627)), 0, between(frac(20, 999634589), frac(63234, 999634589)), api.OK},
		{fit(whole(0), frac(1, 40000), span(0, 0), frac(1, 39999)), 0, api.Span{}, api.ErrLarge},
		// The great denominators are gone in the sum of the first two.
		{fit(frac(1, 999999937), frac(-1, 999999937), span(1, 1), frac(1, 3)), 1, between(frac(-1, 3), frac(1, 3)), api.OK},
		{fit(frac(1, 999999937), frac(1, 999999929), span(1, 1), whole(0)), 1, api.Span{}, api.ErrLarge},
	} {
		s, e := inspect.PredictedAt(x.f, x.signal)
		want(t, "PredictedAt", s, e, x.s, x.e)
	}
	for _, x := range badFits() {
		for _, signal := range []int{0, 1, -101} {
			s, e := inspect.PredictedAt(x.f, signal)
			want(t, "PredictedAt", s, e, api.Span{}, x.e)
		}
	}
}

// P8.13: all values lie within the predictions at their signals
func TestPredictedValues(t *testing.T) {
	touched := 0
	fits(t, 1000, func(_ *rand.Rand, l []api.InspectPair, f api.InspectFit) {
		for _, x := range l {
			s, e := inspect.PredictedAt(f, x.Signal)
			if wanted, g := predicted(f, x.Signal); s != wanted || e != g {
				t.Fatalf("PredictedAt %v, %d: %v, %d, want %v, %d", f, x.Signal, s, e, wanted, g)
			}
			if e == api.OK && (compared(s.Lo, whole(x.Value)) > 0 || compared(s.Hi, whole(x.Value)) < 0) {
				t.Errorf("PredictedAt %v, %d: %v, but the value is %d", f, x.Signal, s, x.Value)
			}
			if s.Lo == whole(x.Value) || s.Hi == whole(x.Value) {
				touched++
			}
		}
	})
	if touched < 1000 {
		t.Errorf("too few values at an end: %d", touched)
	}
}
