package inspect_test

import (
	"math"
	"math/big"
	"math/bits"
	"testing"

	"martensite/api"
	"martensite/inspect"
)

// plan is a plan.
func plan(lot, sample, accept int) api.InspectPlan {
	return api.InspectPlan{Lot: lot, Sample: sample, Accept: accept}
}

// badPlans are plans with errors.
func badPlans() []api.InspectPlan {
	l := []api.InspectPlan{plan(10, 11, 0), plan(30, 31, 0), plan(10, 2, 3), plan(10, 10, 11), plan(1, 2, 0)}
	for _, n := range []int{-1, 31, math.MinInt, math.MaxInt} {
		l = append(l, plan(n, 1, 0), plan(n, n, n), plan(10, n, 0), plan(10, 2, n))
	}
	return append(l, plan(0, 0, 0), plan(0, 1, 0), plan(10, 0, 0))
}

// P8.5, example 6 and edge cases
func TestAcceptanceOf(t *testing.T) {
	for _, x := range []struct {
		p   api.InspectPlan
		bad int
		f   api.Frac
	}{
		{plan(10, 2, 0), 3, frac(7, 15)},
		{plan(10, 2, 1), 3, frac(14, 15)},
		{plan(10, 2, 2), 3, whole(1)},
		{plan(10, 2, 0), 0, whole(1)},
		{plan(10, 2, 0), 9, whole(0)},
		{plan(10, 2, 0), 10, whole(0)},
		{plan(10, 5, 0), 3, frac(1, 12)},
		{plan(10, 4, 0), 3, frac(1, 6)},
		{plan(1, 1, 0), 1, whole(0)},
		{plan(1, 1, 1), 1, whole(1)},
		{plan(10, 10, 3), 3, whole(1)},
		{plan(10, 10, 3), 4, whole(0)},
		{plan(30, 15, 0), 15, frac(1, 155117520)},
		{plan(30, 15, 14), 15, frac(155117519, 155117520)},
	} {
		f, e := inspect.AcceptanceOf(x.p, x.bad)
		want(t, "AcceptanceOf", f, e, x.f, api.OK)
	}
	for _, p := range badPlans() {
		f, e := inspect.AcceptanceOf(p, 0)
		want(t, "AcceptanceOf", f, e, api.Frac{}, api.ErrRange)
		l, e := inspect.CurveOf(p)
		want(t, "CurveOf", l, e, []api.Frac{}, api.ErrRange)
	}
	for _, bad := range []int{-1, 11, math.MinInt, math.MaxInt} {
		f, e := inspect.AcceptanceOf(plan(10, 2, 0), bad)
		want(t, "AcceptanceOf", f, e, api.Frac{}, api.ErrRange)
	}
}

// P8.5: all samples of small lots are tried
func TestAllSamples(t *testing.T) {
	for lot := 1; lot <= 8; lot++ {
		for sample := 1; sample <= lot; sample++ {
			for bad := range lot + 1 {
				counts, all := make([]int, sample+1), 0
				for set := range uint(1) << lot {
					if bits.OnesCount(set) == sample {
						counts[bits.OnesCount(set&(1<<bad-1))]++
						all++
					}
				}
				accepted := 0
				for accept, count := range counts {
					accepted += count
					f, e := inspect.AcceptanceOf(plan(lot, sample, accept), bad)
					want(t, "AcceptanceOf", f, e, lowest(rational(accepted, all)), api.OK)
				}
			}
		}
	}
}

// plans calls a function with all plans.
func plans(do func(api.InspectPlan)) {
	for lot := 1; lot <= api.MaxInspectLot; lot++ {
		for sample := 1; sample <= lot; sample++ {
			for accept := range sample + 1 {
				do(plan(lot, sample, accept))
			}
		}
	}
}

// accepted is the part of all samples that are accepted, exactly: the sum of what each number of bad parts gives.
func accepted(p api.InspectPlan, bad int) *big.Rat {
	sum := new(big.Int)
	for found := 0; found <= p.Accept && found <= bad; found++ {
		if p.Sample-found > p.Lot-bad {
			continue
		}
		ways := new(big.Int).Binomial(int64(bad), int64(found))
		sum.Add(sum, ways.Mul(ways, new(big.Int).Binomial(int64(p.Lot-bad), int64(p.Sample-found))))
	}
	return new(big.Rat).SetFrac(sum, new(big.Int).Binomial(int64(p.Lot), int64(p.Sample)))
}

// P8.5, P8.12: curves of all plans, edge case of the whole lot
func TestAllCurves(t *testing.T) {
	plans(func(p api.InspectPlan) {
		l, e := inspect.CurveOf(p)
		if e != api.OK || len(l) != p.Lot+1 || l[0] != whole(1) {
			t.Fatalf("CurveOf %v: %v, %d", p, l, e)
		}
		for bad, f := range l {
			if g, e := inspect.AcceptanceOf(p, bad); g != f || e != api.OK || f != lowest(accepted(p, bad)) {
				t.Fatalf("AcceptanceOf %v, %d: %v, %d, in the curve %v", p, bad, g, e, f)
			}
			if bad > 0 && compared(f, l[bad-1]) > 0 {
				t.Errorf("CurveOf %v: %v rises", p, l)
			}
			if p.Sample == p.Lot && (f == whole(1)) != (bad <= p.Accept) {
				t.Errorf("CurveOf %v: %v", p, l)
			}
		}
	})
	l, e := inspect.CurveOf(plan(2, 1, 0))
	want(t, "CurveOf", l, e, []api.Frac{whole(1), frac(1, 2), whole(0)}, api.OK)
}

// P8.12: the acceptance does not decrease with Accept, and the sample and the bad parts may be exchanged
func TestCharacteristics(t *testing.T) {
	plans(func(p api.InspectPlan) {
		for bad := range p.Lot + 1 {
			f, _ := inspect.AcceptanceOf(p, bad)
			if p.Accept < p.Sample {
				g, _ := inspect.AcceptanceOf(plan(p.Lot, p.Sample, p.Accept+1), bad)
				if compared(f, g) > 0 {
					t.Errorf("AcceptanceOf %v, %d: %v, but then %v", p, bad, f, g)
				}
			}
			if bad >= max(1, p.Accept) {
				g, e := inspect.AcceptanceOf(plan(p.Lot, bad, p.Accept), p.Sample)
				want(t, "AcceptanceOf", g, e, f, api.OK)
			}
		}
	})
}

// P8.5, example 6 and edge case of the risk 0
func TestSampleFor(t *testing.T) {
	for _, x := range []struct {
		lot, bad, risk, n int
		e                 api.Errno
	}{
		{10, 3, 100, 5, api.OK},
		{10, 3, 83, 6, api.OK},
		{10, 3, 84, 5, api.OK},
		{10, 3, 0, 8, api.OK},
		{10, 10, 0, 1, api.OK},
		{10, 1, 0, 10, api.OK},
		{10, 1, 900, 1, api.OK},
		{10, 1, 899, 2, api.OK},
		{10, 1, 999, 1, api.OK},
		{1, 1, 0, 1, api.OK},
		{30, 1, 0, 30, api.OK},
		{10, 0, 999, 0, api.ErrNone},
		{1, 0, 0, 0, api.ErrNone},
		{0, 0, 0, 0, api.ErrRange},
		{-1, 0, 0, 0, api.ErrRange},
		{31, 1, 0, 0, api.ErrRange},
		{math.MinInt, 1, 0, 0, api.ErrRange},
		{math.MaxInt, 1, 0, 0, api.ErrRange},
		{10, -1, 0, 0, api.ErrRange},
		{10, 11, 0, 0, api.ErrRange},
		{10, math.MinInt, 0, 0, api.ErrRange},
		{10, math.MaxInt, 0, 0, api.ErrRange},
		{10, 3, -1, 0, api.ErrRange},
		{10, 3, 1000, 0, api.ErrRange},
		{10, 0, 1000, 0, api.ErrRange},
		{10, 3, math.MinInt, 0, api.ErrRange},
		{10, 3, math.MaxInt, 0, api.ErrRange},
	} {
		n, e := inspect.SampleFor(x.lot, x.bad, x.risk)
		want(t, "SampleFor", n, e, x.n, x.e)
	}
}

// P8.5: by the definition, for all lots and risks
func TestSamplesByDefinition(t *testing.T) {
	for lot := 1; lot <= api.MaxInspectLot; lot++ {
		for bad := range lot + 1 {
			parts := []*big.Rat{nil}
			for sample := 1; sample <= lot; sample++ {
				parts = append(parts, accepted(plan(lot, sample, 0), bad))
			}
			for risk := 0; risk < api.InspectThousand; risk += 1 + bad%7 {
				wanted, f := 0, api.ErrNone
				for sample := lot; sample > 0; sample-- {
					if parts[sample].Cmp(rational(risk, 1000)) <= 0 {
						wanted, f = sample, api.OK
					}
				}
				n, e := inspect.SampleFor(lot, bad, risk)
				if n != wanted || e != f {
					t.Fatalf("SampleFor %d, %d, %d: %d, %d, want %d, %d", lot, bad, risk, n, e, wanted, f)
				}
			}
		}
	}
}
