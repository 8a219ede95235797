package heat_test

import (
	"math"
	"math/big"
	"math/rand"
	"testing"

	"martensite/api"
	"martensite/heat"
)

// P3.2, example 1
func TestKelvinsOfTheExample(t *testing.T) {
	for energy, k := range map[int]api.Frac{
		0: {Num: 300, Den: 1}, 500: {Num: 550, Den: 1}, 1000: {Num: 800, Den: 1}, 1001: {Num: 3201, Den: 4},
		1: {Num: 601, Den: 2}, 2000: {Num: 1050, Den: 1}, 3000: {Num: 1300, Den: 1},
	} {
		x, e := heat.KelvinAt(example(), energy)
		want(t, "KelvinAt", x, e, k, api.OK)
	}
	for kelvin, energy := range map[int]api.Range{
		300: span(0, 0), 301: span(2, 2), 800: span(1000, 1000), 801: span(1004, 1004), 1300: span(3000, 3000),
	} {
		x, e := heat.EnergyAt(example(), kelvin)
		want(t, "EnergyAt", x, e, energy, api.OK)
	}
}

// P3.2: the temperature is exact and in lowest terms
func TestKelvinAt(t *testing.T) {
	setups(func(random *rand.Rand, s api.HeatSetup) {
		lo, hi := bounds(s)
		for range 10 {
			energy := between(random, lo, hi)
			exact := exactKelvin(s, energy)
			k, e := heat.KelvinAt(s, energy)
			want(t, "KelvinAt", k, e, api.Frac{Num: int(exact.Num().Int64()), Den: int(exact.Denom().Int64())}, api.OK)
		}
	})
	// The numerator of a result may be greater than MaxPart.
	wide := withTable(0, 200, 1000, 1000, 1000000, 3000)
	k, e := heat.KelvinAt(wide, 999997)
	want(t, "a large numerator", k, e, api.Frac{Num: 333*3000 - 2, Den: 333}, api.OK)
	wide = withTable(0, 200, 999983, 3000)
	k, e = heat.KelvinAt(wide, 999982)
	want(t, "the largest denominator", k, e, api.Frac{Num: 999983*3000 - 2800, Den: 999983}, api.OK)
}

// P3.2: the range of an energy is narrow, and its ends have temperatures at both sides
func TestEnergyAt(t *testing.T) {
	setups(func(random *rand.Rand, s api.HeatSetup) {
		for range 10 {
			kelvin := between(random, s.Table[0].Kelvin, s.Table[len(s.Table)-1].Kelvin)
			exact := big.NewRat(int64(kelvin), 1)
			r, e := heat.EnergyAt(s, kelvin)
			if e != api.OK {
				t.Fatalf("EnergyAt: %d", e)
			}
			below, above := exactKelvin(s, r.Lo).Cmp(exact), exactKelvin(s, r.Hi).Cmp(exact)
			if r.Lo == r.Hi && below != 0 || r.Lo != r.Hi && (r.Hi != r.Lo+1 || below >= 0 || above <= 0) {
				t.Errorf("EnergyAt %d of %v: %v", kelvin, s.Table, r)
			}
		}
	})
	r, e := heat.EnergyAt(withTable(0, 300, 10, 303), 301)
	want(t, "10/3", r, e, span(3, 4), api.OK)
	r, e = heat.EnergyAt(withTable(0, 300, 10, 303), 302)
	want(t, "20/3", r, e, span(6, 7), api.OK)
}

// P3.2: the loss is that of the exact temperature, rounded down
func TestLossAt(t *testing.T) {
	setups(func(random *rand.Rand, s api.HeatSetup) {
		lo, hi := bounds(s)
		for i, law := range s.Laws {
			for range 5 {
				energy := between(random, lo, hi)
				n, e := heat.LossAt(s, i, energy)
				want(t, "LossAt", n, e, floorOf(exactLoss(law, exactKelvin(s, energy))), api.OK)
			}
		}
	})
}

// P3.2, example 2, and the edges: one point, no points, before the first and after the last one
func TestLossesOfLaws(t *testing.T) {
	s := withLaws(nil, law(700, 3), law(500, 5, 600, 55), law(400, 100, 401, 100, 500, 100, 1300, 500))
	for _, x := range []struct{ law, energy, loss int }{
		{0, 0, 0}, {0, 3000, 0},
		{1, 0, 3}, {1, 800, 3}, {1, 3000, 3},
		{2, 0, 5}, {2, 400, 5}, {2, 401, 5}, {2, 402, 5}, {2, 403, 5}, {2, 404, 6}, {2, 500, 30}, {2, 598, 54}, {2, 599, 54}, {2, 600, 55}, {2, 3000, 55},
		{3, 0, 100}, {3, 399, 100}, {3, 401, 100}, {3, 403, 100}, {3, 404, 101}, {3, 3000, 500},
	} {
		n, e := heat.LossAt(s, x.law, x.energy)
		want(t, "LossAt", n, e, x.loss, api.OK)
	}
	n, e := heat.LossAt(example(), 1, 800)
	want(t, "LossAt of the example", n, e, 160, api.OK)
}

// P3.2
func TestErrorsOfKelvins(t *testing.T) {
	for _, energy := range []int{-1, 3001, math.MinInt, math.MaxInt} {
		k, e := heat.KelvinAt(example(), energy)
		want(t, "KelvinAt", k, e, api.Frac{}, api.ErrRange)
		n, e := heat.LossAt(example(), 1, energy)
		want(t, "LossAt", n, e, 0, api.ErrRange)
	}
	for _, kelvin := range []int{299, 1301, 0, math.MinInt, math.MaxInt} {
		r, e := heat.EnergyAt(example(), kelvin)
		want(t, "EnergyAt", r, e, api.Range{}, api.ErrRange)
	}
	for _, index := range []int{-1, 2, math.MinInt, math.MaxInt} {
		n, e := heat.LossAt(example(), index, 0)
		want(t, "LossAt", n, e, 0, api.ErrMissing)
		n, e = heat.LossAt(example(), index, -1)
		want(t, "LossAt with two errors", n, e, 0, api.ErrMissing)
	}
	n, e := heat.LossAt(withLaws(), 0, 0)
	want(t, "LossAt without laws", n, e, 0, api.ErrMissing)
}
