package heat_test

import (
	"math"
	"math/rand"
	"slices"
	"testing"

	"martensite/api"
	"martensite/heat"
)

// badDrive is a drive of the set-up of the examples with an error.
type badDrive struct {
	d api.HeatDrive
	e api.Errno
}

// badDrives are drives with errors.
func badDrives() []badDrive {
	return []badDrive{
		{api.HeatDrive{}, api.ErrShape},
		{drive(2, -1, 0), api.ErrShape},
		{drive(0, 0, 0, 0, 0), api.ErrShape},
		{drive(2, -1, 0, 0), api.ErrRange},
		{drive(0, 0, 10001, 0), api.ErrRange},
		{drive(0, 0, 0, math.MinInt), api.ErrRange},
		{drive(0, 0, 0, math.MaxInt), api.ErrRange},
		{drive(-1, 0, 0, 0), api.ErrMissing},
		{drive(2, 0, 0, 0), api.ErrMissing},
		{drive(math.MinInt, 0, 0, 10000), api.ErrMissing},
		{drive(math.MaxInt, 10000, 0, 0), api.ErrMissing},
	}
}

// wantRunError asks all functions of a run that have an error.
func wantRunError(t *testing.T, s api.HeatSetup, e []int, l []api.HeatDrive, wanted api.Errno) {
	t.Helper()
	states, f := heat.RunOf(s, e, l)
	want(t, "RunOf", states, f, []int{}, wanted)
	b, f := heat.BalanceOf(s, e, l)
	want(t, "BalanceOf", b, f, api.HeatBalance{}, wanted)
	peaks, f := heat.PeaksOf(s, e, l)
	want(t, "PeaksOf", peaks, f, []int{}, wanted)
}

// P3.3, examples 2, 3 and 6
func TestStepsOfTheExample(t *testing.T) {
	begin, d := []int{1000, 200, 0}, drive(1, 10, 0, 0)
	e, f := heat.Stepped(example(), begin, d)
	want(t, "Stepped", e, f, []int{650, 300, 100}, api.OK)
	b, f := heat.BalanceOf(example(), begin, []api.HeatDrive{d})
	want(t, "BalanceOf", b, f, api.HeatBalance{Before: 1200, In: 10, Lost: 160, After: 1050}, api.OK)
	peaks, f := heat.PeaksOf(example(), begin, []api.HeatDrive{d})
	want(t, "PeaksOf", peaks, f, []int{1000, 300, 100}, api.OK)
	x := drive(0, 100, 0, 0)
	l, f := heat.RunOf(example(), []int{0, 0, 0}, []api.HeatDrive{x, x, x})
	want(t, "RunOf", l, f, [][]int{{100, 0, 0}, {175, 19, 6}, {236, 45, 19}}, api.OK)
}

// P3.3, P3.8: runs, balances and peaks by the definition
func TestRuns(t *testing.T) {
	broken := 0
	setups(func(random *rand.Rand, s api.HeatSetup) {
		e := someState(random, s)
		var l []api.HeatDrive
		for range random.Intn(12) {
			l = append(l, someDrive(random, s))
		}
		states, lost, wanted := exactRun(s, e, l)
		if wanted != api.OK {
			broken++
			wantRunError(t, s, e, l, wanted)
			return
		}
		all := slices.Concat([][]int{e}, states)
		run, f := heat.RunOf(s, e, l)
		want(t, "RunOf", run, f, states, api.OK)
		peaks, f := heat.PeaksOf(s, e, l)
		want(t, "PeaksOf", peaks, f, highest(all...), api.OK)
		b, f := heat.BalanceOf(s, e, l)
		want(t, "BalanceOf", b, f, api.HeatBalance{Before: sum(e), In: total(l), Lost: lost, After: sum(all[len(l)])}, api.OK)
		if b.Before+b.In != b.Lost+b.After {
			t.Errorf("joules are lost: %+v", b)
		}
	})
	if broken < 100 || broken > 1400 {
		t.Errorf("%d of 1500 runs leave the table", broken)
	}
}

// P3.3: single steps by the definition, from all corners of the table
func TestStepped(t *testing.T) {
	setups(func(random *rand.Rand, s api.HeatSetup) {
		for range 4 {
			e, d := someState(random, s), someDrive(random, s)
			wanted, _, wrong := exactStep(s, e, d)
			after, f := heat.Stepped(s, e, d)
			want(t, "Stepped", after, f, wanted, wrong)
		}
	})
}

// P3.8: a step adds the powers and takes the loss at the temperature after the exchange
func TestNoJouleIsLost(t *testing.T) {
	setups(func(random *rand.Rand, s api.HeatSetup) {
		e, d := someState(random, s), someDrive(random, s)
		after, f := heat.Stepped(s, e, d)
		b, g := heat.BalanceOf(s, e, []api.HeatDrive{d})
		if f != g || f == api.OK && (sum(after) != sum(e)+sum(d.Powers)-b.Lost || b.After != sum(after)) {
			t.Errorf("a step of %v to %v: %d, balance %+v, %d", e, after, f, b, g)
		}
	})
}

// P3.3: which cells exchange, in which order, and how it is rounded
func TestExchange(t *testing.T) {
	for _, x := range []struct {
		exchange      int
		before, after []int
	}{
		{500, []int{700}, []int{700}},
		{0, []int{700, 0, 1000, 5}, []int{700, 0, 1000, 5}},
		{500, []int{700, 0}, []int{350, 350}},
		{500, []int{0, 700}, []int{350, 350}},
		{500, []int{7, 0}, []int{4, 3}},
		{500, []int{0, 7}, []int{4, 3}},
		{1, []int{999, 0}, []int{999, 0}},
		{1, []int{0, 999}, []int{1, 998}},
		{1, []int{1000, 0}, []int{999, 1}},
		{1, []int{0, 1000}, []int{1, 999}},
		{333, []int{10, 0}, []int{7, 3}},
		{333, []int{0, 10}, []int{4, 6}},
		// The last one of an odd number takes no part in the first round.
		{500, []int{0, 0, 800}, []int{0, 400, 400}},
		{500, []int{800, 0, 0}, []int{400, 200, 200}},
		// The last one of an even number takes no part in the second round.
		{500, []int{800, 0, 0, 0}, []int{400, 200, 200, 0}},
		{500, []int{0, 0, 0, 800}, []int{0, 200, 200, 400}},
		{500, []int{0, 0, 0, 0, 800}, []int{0, 0, 0, 400, 400}},
		{500, []int{1000, 0, 1000, 0, 1000, 0}, []int{500, 500, 500, 500, 500, 500}},
	} {
		none := drive(0, make([]int, len(x.before))...)
		e, f := heat.Stepped(plain(len(x.before), x.exchange), x.before, none)
		want(t, "Stepped", e, f, x.after, api.OK)
	}
}

// P3.3: the temperatures count, not the energies, and as exact fractions
func TestExchangeByKelvins(t *testing.T) {
	s := api.HeatSetup{Cells: 2, Exchange: 500, Table: knots(0, 300, 3, 301, 6, 303, 9, 304), Laws: [][]api.HeatPoint{nil}}
	none := drive(0, 0, 0)
	for _, x := range [][2][]int{
		{{6, 0}, {5, 1}},
		{{9, 0}, {7, 2}},
		{{0, 9}, {2, 7}},
		{{0, 6}, {2, 4}},
		{{1, 0}, {1, 0}},
		{{0, 1}, {1, 0}},
		{{8, 1}, {7, 2}},
	} {
		e, f := heat.Stepped(s, x[0], none)
		want(t, "Stepped", e, f, x[1], api.OK)
	}
}

// P3.3: the largest numbers do not overflow
func TestExchangeOfTheWidestTable(t *testing.T) {
	for _, table := range [][]api.HeatKnot{
		knots(0, 200, 1000000, 3000),
		knots(0, 200, 999983, 3000),
		knots(0, 200, 999979, 2999, 1000000, 3000),
		knots(0, 200, 1, 201, 1000000, 3000),
		knots(0, 200, 2799, 2999, 1000000, 3000),
	} {
		s := api.HeatSetup{Cells: 2, Exchange: 500, Table: table, Laws: [][]api.HeatPoint{law(200, 0, 2200, 1000)}}
		lo, hi := bounds(s)
		for _, e := range [][]int{{lo, hi}, {hi, lo}, {lo + 1, hi - 1}, {hi - 1, lo + 1}, {hi, hi - 1}, {499999, 500000}} {
			d := drive(0, 1000, 0)
			wanted, _, wrong := exactStep(s, e, d)
			after, f := heat.Stepped(s, e, d)
			want(t, "Stepped", after, f, wanted, wrong)
		}
	}
}

// P3.3: the loss comes after the exchange and before the powers, by the law of the drive
func TestLossOfAStep(t *testing.T) {
	s := plain(2, 500)
	s.Laws = [][]api.HeatPoint{nil, law(300, 0, 1300, 500), law(300, 100, 1300, 600)}
	for index, after := range []int{450, 250, 150} {
		e, f := heat.Stepped(s, []int{800, 0}, drive(index, 50, 7))
		want(t, "Stepped", e, f, []int{after, 407}, api.OK)
	}
}

// P3.3: only energies after a step leave the table
func TestLeavingTheTable(t *testing.T) {
	s := api.HeatSetup{Cells: 2, Exchange: 500, Table: knots(100, 300, 200, 400), Laws: [][]api.HeatPoint{nil, law(300, 50)}}
	for _, x := range []struct {
		before []int
		d      api.HeatDrive
		after  []int
		e      api.Errno
	}{
		{[]int{100, 100}, drive(1, 0, 0), nil, api.ErrBreak},
		{[]int{100, 100}, drive(1, 49, 0), nil, api.ErrBreak},
		// The loss alone would leave the table, but the power comes in the same step.
		{[]int{100, 100}, drive(1, 50, 0), []int{100, 100}, api.OK},
		{[]int{100, 100}, drive(1, 150, 100), []int{200, 200}, api.OK},
		{[]int{100, 100}, drive(1, 151, 100), nil, api.ErrBreak},
		{[]int{100, 100}, drive(1, 150, 101), nil, api.ErrBreak},
		{[]int{200, 200}, drive(0, 0, 1), nil, api.ErrBreak},
		{[]int{200, 200}, drive(0, 0, 0), []int{200, 200}, api.OK},
		{[]int{200, 100}, drive(0, 50, 50), []int{200, 200}, api.OK},
		{[]int{200, 100}, drive(0, 51, 0), nil, api.ErrBreak},
		{[]int{100, 200}, drive(0, 10000, 10000), nil, api.ErrBreak},
	} {
		e, f := heat.Stepped(s, x.before, x.d)
		want(t, "Stepped", e, f, x.after, x.e)
		if x.e != api.OK {
			wantRunError(t, s, x.before, []api.HeatDrive{x.d}, x.e)
		}
	}
}

// P3.3: only the last step leaves the table
func TestLeavingTheTableAtLast(t *testing.T) {
	s, warm := plain(1, 0), drive(0, 250)
	states, f := heat.RunOf(s, []int{0}, slices.Repeat([]api.HeatDrive{warm}, 4))
	want(t, "RunOf", states, f, [][]int{{250}, {500}, {750}, {1000}}, api.OK)
	wantRunError(t, s, []int{0}, slices.Repeat([]api.HeatDrive{warm}, 5), api.ErrBreak)
	wantRunError(t, s, []int{1}, slices.Repeat([]api.HeatDrive{warm}, 4), api.ErrBreak)
}

// P3.3
func TestErrorsOfDrives(t *testing.T) {
	good, state := drive(0, 0, 0, 0), []int{0, 0, 0}
	for _, b := range badDrives() {
		e, f := heat.Stepped(example(), state, b.d)
		want(t, "Stepped", e, f, []int{}, b.e)
		wantRunError(t, example(), state, []api.HeatDrive{b.d}, b.e)
		// All drives are checked before the first step, which leaves the table.
		wantRunError(t, example(), state, []api.HeatDrive{drive(0, 3001, 0, 0), b.d, {}}, b.e)
		wantRunError(t, example(), state, append(slices.Repeat([]api.HeatDrive{good}, api.MaxHeatTicks), b.d), api.ErrLarge)
	}
	e, f := heat.Stepped(withLaws(), state, good)
	want(t, "Stepped without laws", e, f, []int{}, api.ErrMissing)
	wantRunError(t, example(), state, slices.Repeat([]api.HeatDrive{good}, api.MaxHeatTicks+1), api.ErrLarge)
	l, f := heat.RunOf(example(), state, slices.Repeat([]api.HeatDrive{good}, api.MaxHeatTicks))
	want(t, "the longest run", len(l), f, api.MaxHeatTicks, api.OK)
	e, f = heat.Stepped(plain(1, 0), []int{0}, drive(0, 1000))
	want(t, "all power", e, f, []int{1000}, api.OK)
	wide := api.HeatSetup{Cells: 1, Table: knots(0, 300, 10000, 1300), Laws: [][]api.HeatPoint{nil}}
	e, f = heat.Stepped(wide, []int{0}, drive(0, api.MaxHeatPower))
	want(t, "the greatest power", e, f, []int{10000}, api.OK)
}

// P3.3: runs without drives
func TestRunsWithoutDrives(t *testing.T) {
	for _, l := range [][]api.HeatDrive{nil, {}} {
		states, f := heat.RunOf(example(), []int{5, 6, 7}, l)
		want(t, "RunOf", states, f, [][]int{}, api.OK)
		b, f := heat.BalanceOf(example(), []int{5, 6, 7}, l)
		want(t, "BalanceOf", b, f, api.HeatBalance{Before: 18, After: 18}, api.OK)
		peaks, f := heat.PeaksOf(example(), []int{5, 6, 7}, l)
		want(t, "PeaksOf", peaks, f, []int{5, 6, 7}, api.OK)
	}
}

// P3.3: a peak may lie between the first state and the last one
func TestPeaksBetween(t *testing.T) {
	s := plain(2, 0)
	l := []api.HeatDrive{drive(0, 500, 0), drive(1, 0, 30), drive(1, 0, 0)}
	s.Laws = append(s.Laws, law(300, 100))
	peaks, f := heat.PeaksOf(s, []int{10, 20}, l)
	want(t, "PeaksOf", peaks, f, []int{510, 50}, api.OK)
	states, f := heat.RunOf(s, []int{10, 20}, l)
	want(t, "RunOf", states, f, [][]int{{510, 20}, {410, 50}, {310, 50}}, api.OK)
}

// P3.9: a state that is nowhere less has a step that is nowhere less
func TestNeverCrossing(t *testing.T) {
	compared := 0
	setups(func(random *rand.Rand, s api.HeatSetup) {
		for range 4 {
			b, d := someBox(random, s), someSpan(random, s)
			if random.Intn(2) == 0 {
				// States that differ by one joule in one cell.
				b.Hi = slices.Clone(b.Lo)
				_, hi := bounds(s)
				i := random.Intn(s.Cells)
				b.Hi[i] = min(b.Lo[i]+1, hi)
			}
			less, more := ends([]api.HeatSpan{d})
			lower, f := heat.Stepped(s, b.Lo, less[0])
			upper, g := heat.Stepped(s, b.Hi, more[0])
			if f != api.OK || g != api.OK {
				continue
			}
			compared++
			for i := range lower {
				if lower[i] > upper[i] {
					t.Errorf("%v crosses to %v, %v", b, lower, upper)
				}
			}
		}
	})
	if compared < 1000 {
		t.Errorf("only %d steps were compared", compared)
	}
}

// P3.11: by exchange alone no energy rises above the maximum, and none falls below the minimum
func TestExchangeAlone(t *testing.T) {
	setups(func(random *rand.Rand, s api.HeatSetup) {
		s.Laws = [][]api.HeatPoint{nil}
		e := someState(random, s)
		none := drive(0, make([]int, s.Cells)...)
		l, f := heat.RunOf(s, e, slices.Repeat([]api.HeatDrive{none}, 10))
		if f != api.OK {
			t.Errorf("exchange leaves the table: %d", f)
		}
		for _, after := range l {
			if slices.Max(after) > slices.Max(e) || slices.Min(after) < slices.Min(e) || sum(after) != sum(e) {
				t.Errorf("exchange of %v: %v", e, after)
			}
		}
	})
}

// R3: arguments are not modified, and results share no memory with them or with each other
func TestMemoryOfRuns(t *testing.T) {
	e, l := []int{1000, 200, 0}, []api.HeatDrive{drive(1, 10, 0, 0), drive(1, 10, 0, 0)}
	states, _ := heat.RunOf(example(), e, l)
	second := slices.Clone(states[1])
	peaks, _ := heat.PeaksOf(example(), e, nil)
	step, _ := heat.Stepped(example(), e, l[0])
	for _, x := range [][]int{states[0], peaks, step} {
		for i := range x {
			x[i] = -1
		}
	}
	want(t, "the state", e, api.OK, []int{1000, 200, 0}, api.OK)
	want(t, "the drives", l, api.OK, []api.HeatDrive{drive(1, 10, 0, 0), drive(1, 10, 0, 0)}, api.OK)
	want(t, "the second state", states[1], api.OK, second, api.OK)
}
