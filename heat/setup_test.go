package heat_test

import (
	"math"
	"math/big"
	"math/rand"
	"testing"

	"martensite/api"
	"martensite/heat"
)

// bad is a set-up with an error, and its index.
type bad struct {
	s     api.HeatSetup
	index int
	e     api.Errno
}

// withTable is the set-up of the examples with another table.
func withTable(numbers ...int) api.HeatSetup {
	s := example()
	s.Table = knots(numbers...)
	return s
}

// withLaws is the set-up of the examples with other laws.
func withLaws(laws ...[]api.HeatPoint) api.HeatSetup {
	s := example()
	s.Laws = laws
	return s
}

// badSizes are set-ups with errors that concern no knot and no law.
func badSizes() []bad {
	sized := func(cells, exchange int, s api.HeatSetup) api.HeatSetup {
		s.Cells, s.Exchange = cells, exchange
		return s
	}
	wrong := withTable(-1, 0)
	wrong.Laws = [][]api.HeatPoint{law(0, 0), nil, nil, nil, nil}
	many := withTable(0, 300, 10, 310, 20, 320, 30, 330, 40, 340, 50, 350, 60, 360, 70, 370, 80, 380)
	manyWrong := withTable(0, 300, 10, 300, 20, 320, 30, 330, 40, 340, 50, 350, 60, 360, 70, 370, 80, 380)
	short := withTable(0, 300)
	short.Laws = wrong.Laws
	return []bad{
		{api.HeatSetup{}, 0, api.ErrRange},
		{sized(0, 0, example()), 0, api.ErrRange},
		{sized(-1, 0, example()), 0, api.ErrRange},
		{sized(api.MaxHeatCells+1, 0, example()), 0, api.ErrRange},
		{sized(math.MinInt, 0, example()), 0, api.ErrRange},
		{sized(math.MaxInt, 0, example()), 0, api.ErrRange},
		{sized(3, -1, example()), 0, api.ErrRange},
		{sized(3, api.MaxHeatExchange+1, example()), 0, api.ErrRange},
		{sized(3, math.MaxInt, wrong), 0, api.ErrRange},
		{sized(0, 0, many), 0, api.ErrRange},
		{withTable(), 0, api.ErrShape},
		{short, 0, api.ErrShape},
		{withTable(-1, 0), 0, api.ErrShape},
		{many, 0, api.ErrLarge},
		{manyWrong, 0, api.ErrLarge},
	}
}

// badKnots are set-ups with errors of knots.
func badKnots() []bad {
	many := withTable(0, 300, 5, 306)
	many.Laws = make([][]api.HeatPoint, api.MaxHeatLaws+1)
	return []bad{
		{withTable(-1, 300, 1000, 800), 0, api.ErrRange},
		{withTable(0, 199, 1000, 800), 0, api.ErrRange},
		{withTable(0, 3001, 1000, 800), 0, api.ErrRange},
		{withTable(math.MinInt, 300, 1000, 800), 0, api.ErrRange},
		{withTable(0, math.MaxInt, 1000, 800), 0, api.ErrRange},
		{withTable(0, 300, 1000001, 800), 1, api.ErrRange},
		{withTable(0, 300, math.MaxInt, 800), 1, api.ErrRange},
		{withTable(0, 300, 1000, 3001), 1, api.ErrRange},
		{withTable(0, 300, 1000, math.MinInt), 1, api.ErrRange},
		{withTable(0, 300, -1, 250), 1, api.ErrRange},
		{withTable(0, 300, 0, 800), 1, api.ErrOrder},
		{withTable(5, 300, 4, 301), 1, api.ErrOrder},
		{withTable(0, 300, 1000, 300), 1, api.ErrOrder},
		{withTable(0, 300, 1000, 299), 1, api.ErrOrder},
		{withTable(0, 300, 10, 310, 9, 330, 1, 3001), 2, api.ErrOrder},
		{withTable(0, 300, 500, 801), 1, api.ErrBreak},
		{withTable(0, 300, 1, 302), 1, api.ErrBreak},
		{withTable(0, 300, 1000, 310, 1010, 321, 1010, 321), 2, api.ErrBreak},
		{withTable(0, 300, 10, 310, 20, 321, -1, 0), 2, api.ErrBreak},
		{many, 1, api.ErrBreak},
	}
}

// badLaws are set-ups with errors of laws.
func badLaws() []bad {
	wrong := law(0, -1)
	return []bad{
		{withLaws(nil, nil, nil, nil, nil), 0, api.ErrLarge},
		{withLaws(wrong, nil, nil, nil, nil), 0, api.ErrLarge},
		{withLaws(nil, law(300, 0, 310, 0, 320, 0, 330, 0, 340, 0, 350, 0, 360, 0)), 1, api.ErrLarge},
		{withLaws(law(0, 0, 310, 0, 320, 0, 330, 0, 340, 0, 350, 0, 360, 0), wrong), 0, api.ErrLarge},
		{withLaws(law(199, 0)), 0, api.ErrRange},
		{withLaws(law(3001, 0)), 0, api.ErrRange},
		{withLaws(law(300, -1)), 0, api.ErrRange},
		{withLaws(law(300, 1001)), 0, api.ErrRange},
		{withLaws(law(300, math.MinInt)), 0, api.ErrRange},
		{withLaws(law(math.MaxInt, 0)), 0, api.ErrRange},
		{withLaws(nil, nil, law(300, 0, 3001, 10)), 2, api.ErrRange},
		{withLaws(nil, law(300, 900, 2000, 1001)), 1, api.ErrRange},
		{withLaws(nil, law(300, 0, 299, -1)), 1, api.ErrRange},
		{withLaws(nil, law(300, 0, 300, 0)), 1, api.ErrOrder},
		{withLaws(law(300, 0, 299, 1)), 0, api.ErrOrder},
		{withLaws(nil, nil, nil, law(300, 10, 400, 9)), 3, api.ErrOrder},
		{withLaws(law(300, 0, 300, 100)), 0, api.ErrOrder},
		{withLaws(law(300, 0, 301, 1)), 0, api.ErrBreak},
		{withLaws(nil, law(300, 0, 400, 51)), 1, api.ErrBreak},
		{withLaws(law(300, 0, 400, 10, 600, 111), wrong), 0, api.ErrBreak},
		{withLaws(law(300, 900), law(300, 0, 400, 51)), 1, api.ErrBreak},
		{withLaws(law(300, 0, 301, 1, 299, 0)), 0, api.ErrBreak},
	}
}

// badPairs are set-ups with a law that is somewhere less than the one before.
func badPairs() []bad {
	return []bad{
		{withLaws(law(300, 1), law(300, 0)), 1, api.ErrClash},
		{withLaws(law(300, 1), nil), 1, api.ErrClash},
		{withLaws(nil, law(300, 1), nil, law(0, 0)), 2, api.ErrClash},
		{withLaws(nil, law(500, 5), law(200, 0, 400, 10)), 2, api.ErrClash},
		{withLaws(law(2900, 0, 3000, 1), law(300, 0)), 1, api.ErrClash},
		{withLaws(law(200, 1, 300, 20), law(200, 0, 300, 20)), 1, api.ErrClash},
		{withLaws(law(300, 0, 400, 10), law(300, 0, 399, 9, 401, 10)), 1, api.ErrClash},
		{withLaws(law(300, 0, 400, 10), law(300, 0, 500, 20, 600, 20), law(300, 0, 600, 29)), 2, api.ErrClash},
		{withLaws(law(300, 0, 400, 10, 1000, 10), law(300, 0, 1000, 300), law(300, 0, 999, 299, 1001, 300)), 2, api.ErrClash},
		// Both ends are equal, but the law before is greater between them.
		{withLaws(law(300, 0, 400, 50, 500, 50), law(300, 0, 500, 50)), 1, api.ErrClash},
		{withLaws(law(300, 0, 500, 50), law(300, 0, 400, 0, 500, 50)), 1, api.ErrClash},
		// A third law is compared with the second one alone.
		{withLaws(law(300, 5), law(300, 9), law(300, 8)), 2, api.ErrClash},
	}
}

// badSetups are set-ups with errors; where there are several, the one that is listed first.
func badSetups() []bad {
	var all []bad
	for _, l := range [][]bad{badSizes(), badKnots(), badLaws(), badPairs()} {
		all = append(all, l...)
	}
	return all
}

// goodSetups are set-ups at the limits.
func goodSetups() []api.HeatSetup {
	widest := api.HeatSetup{Cells: api.MaxHeatCells, Exchange: api.MaxHeatExchange, Table: knots(0, api.MinHeatKelvin, api.MaxHeatEnergy, api.MaxHeatKelvin)}
	widest.Laws = [][]api.HeatPoint{nil, nil, law(200, 0, 2200, 1000, 3000, 1000), law(200, 1000)}
	return []api.HeatSetup{
		example(), plain(1, 0), widest,
		withTable(0, 300, 1, 301),
		withTable(0, 300, 10, 310, 20, 320, 30, 330, 40, 340, 50, 350, 60, 360, 70, 370),
		withTable(999999, 2999, 1000000, 3000),
		withLaws(),
		withLaws(nil, nil, nil, nil),
		withLaws(law(300, 7), law(300, 7), law(3000, 7), law(200, 7, 3000, 7)),
		withLaws(law(300, 0, 400, 50), law(300, 0, 400, 50)),
		withLaws(law(300, 0, 310, 5, 320, 10, 330, 15, 340, 20, 350, 25), law(300, 0, 350, 25)),
		withLaws(law(300, 0, 500, 50), law(300, 0, 400, 50, 500, 50)),
		withLaws(law(200, 0, 3000, 0)),
	}
}

// P3.1
func TestCheckSetup(t *testing.T) {
	setups(func(random *rand.Rand, s api.HeatSetup) {
		i, e := heat.CheckSetup(s)
		want(t, "CheckSetup", i, e, 0, api.OK)
	})
	for _, s := range goodSetups() {
		i, e := heat.CheckSetup(s)
		want(t, "CheckSetup at limits "+heat.FormatSetup(s), i, e, 0, api.OK)
	}
	for _, b := range badSetups() {
		i, e := heat.CheckSetup(b.s)
		want(t, "CheckSetup "+heat.FormatSetup(b.s), i, e, b.index, b.e)
	}
}

// P3.1: the limits themselves are allowed, and what lies outside of them is not
func TestLimitsOfSetups(t *testing.T) {
	for cells := -1; cells <= 14; cells++ {
		s := example()
		s.Cells = cells
		e := api.OK
		if cells < 1 || cells > 12 {
			e = api.ErrRange
		}
		i, f := heat.CheckSetup(s)
		want(t, "cells", i, f, 0, e)
	}
	for exchange, e := range map[int]api.Errno{-1: api.ErrRange, 0: api.OK, 1: api.OK, 500: api.OK, 501: api.ErrRange} {
		s := example()
		s.Exchange = exchange
		i, f := heat.CheckSetup(s)
		want(t, "exchange", i, f, 0, e)
	}
}

// clashes is whether at some temperature a law is less than another one, asked of every half kelvin.
func clashes(laws [2][]api.HeatPoint) bool {
	for half := int64(2 * api.MinHeatKelvin); half <= 2*api.MaxHeatKelvin; half++ {
		k := big.NewRat(half, 2)
		if exactLoss(laws[1], k).Cmp(exactLoss(laws[0], k)) < 0 {
			return true
		}
	}
	return false
}

// P3.1: a law clashes with the one before exactly if it is less at some temperature
func TestClashes(t *testing.T) {
	random := rand.New(rand.NewSource(4))
	clashing := 0
	for range 150 {
		laws := [2][]api.HeatPoint{someLaw(random, random.Intn(3)), someLaw(random, random.Intn(30))}
		if random.Intn(2) == 0 {
			// Close laws, which differ at one point at most.
			laws[1] = append([]api.HeatPoint{}, laws[0]...)
			if n := len(laws[1]); n > 2 {
				laws[1] = append(laws[1][:1], laws[1][2:]...)
			}
		}
		for _, l := range laws {
			if _, e := heat.CheckSetup(withLaws(l)); e != api.OK {
				t.Fatalf("no law: %v, %d", l, e)
			}
		}
		wanted, at := api.OK, 0
		if clashes(laws) {
			wanted, at = api.ErrClash, 1
			clashing++
		}
		i, e := heat.CheckSetup(withLaws(laws[0], laws[1]))
		want(t, heat.FormatSetup(withLaws(laws[0], laws[1])), i, e, at, wanted)
	}
	if clashing < 20 || clashing > 130 {
		t.Errorf("%d of 150 pairs clash", clashing)
	}
}

// badState is a state of the set-up of the examples with an error, and its index.
type badState struct {
	state []int
	index int
	e     api.Errno
}

// badStates are states with errors.
func badStates() []badState {
	return []badState{
		{nil, 0, api.ErrShape},
		{[]int{0, 0}, 0, api.ErrShape},
		{[]int{0, 0, 0, 0}, 0, api.ErrShape},
		{[]int{0, -1}, 0, api.ErrShape},
		{[]int{-1, 0, 3001}, 0, api.ErrRange},
		{[]int{0, 3001, -1}, 1, api.ErrRange},
		{[]int{3000, 0, -1}, 2, api.ErrRange},
		{[]int{0, math.MinInt, 0}, 1, api.ErrRange},
		{[]int{0, 0, math.MaxInt}, 2, api.ErrRange},
	}
}

// P3.1
func TestCheckState(t *testing.T) {
	setups(func(random *rand.Rand, s api.HeatSetup) {
		e := someState(random, s)
		i, f := heat.CheckState(s, e)
		want(t, "CheckState", i, f, 0, api.OK)
		cell := random.Intn(s.Cells)
		lo, hi := bounds(s)
		e[cell] = lo - 1
		i, f = heat.CheckState(s, e)
		want(t, "CheckState too cold", i, f, cell, api.ErrRange)
		e[cell] = hi + 1
		i, f = heat.CheckState(s, e)
		want(t, "CheckState too hot", i, f, cell, api.ErrRange)
	})
	i, f := heat.CheckState(example(), []int{0, 3000, 0})
	want(t, "CheckState at limits", i, f, 0, api.OK)
	for _, b := range badStates() {
		i, f := heat.CheckState(example(), b.state)
		want(t, "CheckState with an error", i, f, b.index, b.e)
	}
}

// wantError asks all functions of a set-up and a state that have an error, with errors in all other arguments, too.
func wantError(t *testing.T, s api.HeatSetup, e []int, wanted api.Errno) {
	t.Helper()
	numbers, wrong := []int{}, drive(-1, -1)
	l, f := heat.Stepped(s, e, wrong)
	want(t, "Stepped", l, f, numbers, wanted)
	states, f := heat.RunOf(s, e, []api.HeatDrive{wrong})
	want(t, "RunOf", states, f, numbers, wanted)
	b, f := heat.BalanceOf(s, e, []api.HeatDrive{wrong})
	want(t, "BalanceOf", b, f, api.HeatBalance{}, wanted)
	l, f = heat.PeaksOf(s, e, []api.HeatDrive{wrong})
	want(t, "PeaksOf", l, f, numbers, wanted)
	n, f := heat.DepthAbove(s, e, -1)
	want(t, "DepthAbove", n, f, 0, wanted)
	n, f = heat.ShortestTo(s, e, api.HeatTask{Depth: -1, Most: -1})
	want(t, "ShortestTo", n, f, 0, wanted)
}

// wantBoxError asks all functions of a set-up and a box that have an error, with errors in all other arguments, too.
func wantBoxError(t *testing.T, s api.HeatSetup, b api.HeatBox, wanted api.Errno) {
	t.Helper()
	spans := make([]api.HeatSpan, api.MaxHeatTicks+1)
	x, f := heat.BoxStep(s, b, spans[0])
	want(t, "BoxStep", x, f, api.HeatBox{}, wanted)
	l, f := heat.BoxRun(s, b, spans)
	want(t, "BoxRun", l, f, []int{}, wanted)
	r, f := heat.DepthsOf(s, b, api.HeatHistory{Spans: spans})
	want(t, "DepthsOf", r, f, api.Range{}, wanted)
	n, f := heat.WithinLimit(s, b, api.HeatHistory{Spans: spans})
	want(t, "WithinLimit", n, f, 0, wanted)
}

// P3.1 to P3.5: the error of the set-up comes first, without its index; then that of the state or the box
func TestErrorsOfSetupsAndStates(t *testing.T) {
	for _, b := range badSetups() {
		i, f := heat.CheckState(b.s, []int{-1})
		want(t, "CheckState", i, f, 0, b.e)
		i, f = heat.CheckBox(b.s, box(nil, []int{-1}))
		want(t, "CheckBox", i, f, 0, b.e)
		k, f := heat.KelvinAt(b.s, -1)
		want(t, "KelvinAt", k, f, api.Frac{}, b.e)
		r, f := heat.EnergyAt(b.s, -1)
		want(t, "EnergyAt", r, f, api.Range{}, b.e)
		n, f := heat.LossAt(b.s, -1, -1)
		want(t, "LossAt", n, f, 0, b.e)
		wantError(t, b.s, nil, b.e)
		wantBoxError(t, b.s, box(nil, []int{-1}), b.e)
	}
	for _, b := range badStates() {
		wantError(t, example(), b.state, b.e)
		wantBoxError(t, example(), box(b.state, []int{-1}), b.e)
		wantBoxError(t, example(), box([]int{1000, 1000, 1000}, b.state), b.e)
	}
	wantBoxError(t, example(), box([]int{0, 0, 1}, []int{0, 0, 0}), api.ErrOrder)
}
