package steel_test

import (
	"math"
	"math/rand"
	"slices"
	"testing"

	"martensite/api"
	"martensite/steel"
)

// badStates are states with errors.
func badStates() map[api.SteelState]api.Errno {
	return map[api.SteelState]api.Errno{
		{}:                                    api.ErrForm,
		{Parent: -1, Austenite: whole + 1}:    api.ErrRange,
		{Parent: whole + 1}:                   api.ErrRange,
		{Austenite: -1}:                       api.ErrRange,
		{Austenite: whole + 1}:                api.ErrRange,
		{Bainite: -1}:                         api.ErrRange,
		{Bainite: math.MaxInt}:                api.ErrRange,
		{Martensite: math.MinInt}:             api.ErrRange,
		{Martensite: whole + 1}:               api.ErrRange,
		{Parent: whole, Wait: -1}:             api.ErrRange,
		{Parent: whole, Wait: whole + 1}:      api.ErrRange,
		{Parent: whole, Grain: -1}:            api.ErrRange,
		{Parent: whole, Grain: 100001}:        api.ErrRange,
		{Parent: whole, Temper: -1}:           api.ErrRange,
		{Parent: whole, Temper: 1000001}:      api.ErrRange,
		{Parent: 1, Temper: math.MaxInt}:      api.ErrRange,
		{Parent: whole - 1}:                   api.ErrForm,
		{Parent: whole, Martensite: 1}:        api.ErrForm,
		{Parent: whole, Austenite: whole}:     api.ErrForm,
		{Bainite: whole / 2, Wait: whole / 2}: api.ErrForm,
	}
}

// badPicks are steels with errors.
func badPicks() []api.SteelPick {
	return []api.SteelPick{{Heat: -1}, {Heat: 1001}, {Cool: -1}, {Cool: 1001}, {Cold: -1}, {Cold: 1001}, {Heat: math.MinInt, Cool: math.MaxInt}}
}

// P4.2
func TestCheckState(t *testing.T) {
	for s, e := range badStates() {
		want(t, "CheckState", nil, steel.CheckState(s), nil, e)
		b, f := steel.BoxOf(s)
		want(t, "BoxOf", b, f, api.SteelBox{}, e)
	}
	for _, s := range []api.SteelState{
		parent(), austenite(), {Bainite: whole}, {Martensite: whole},
		{Parent: 1, Austenite: 2, Bainite: 3, Martensite: whole - 6},
		{Parent: whole, Wait: whole, Grain: 100000, Temper: 1000000},
	} {
		want(t, "CheckState", nil, steel.CheckState(s), nil, api.OK)
	}
}

// P4.2
func TestCheckPick(t *testing.T) {
	for _, p := range badPicks() {
		want(t, "CheckPick", nil, steel.CheckPick(p), nil, api.ErrRange)
		s, e := steel.Stepped(example(), parent(), api.SteelTick{Kelvin: 3000, Pick: p})
		want(t, "Stepped", s, e, api.SteelState{}, api.ErrRange)
		s, e = steel.RunOf(example(), parent(), api.SteelRun{Pick: p})
		want(t, "RunOf", s, e, api.SteelState{}, api.ErrRange)
	}
	for _, p := range []api.SteelPick{{}, {Heat: 1000, Cool: 1000, Cold: 1000}, {Heat: 1, Cool: 2, Cold: 3}} {
		want(t, "CheckPick", nil, steel.CheckPick(p), nil, api.OK)
	}
}

// P4.2, example 1
func TestHotExample(t *testing.T) {
	s := parent()
	for _, x := range []struct {
		kelvin int
		after  api.SteelState
	}{
		{1100, api.SteelState{Parent: 800000, Austenite: 200000, Grain: 10}},
		{1200, api.SteelState{Parent: 300000, Austenite: 700000, Grain: 40}},
		{1200, api.SteelState{Austenite: whole, Grain: 70}},
	} {
		next, e := steel.Stepped(example(), s, api.SteelTick{Kelvin: x.kelvin})
		want(t, "Stepped", next, e, x.after, api.OK)
		s = next
	}
	n, e := steel.GrainsOf(example(), parent(), []int{1100, 1200, 1200})
	want(t, "GrainsOf", n, e, 70, api.OK)
}

// P4.2, examples 2 and 3
func TestColdExamples(t *testing.T) {
	tick := api.SteelTick{Kelvin: 700, Pick: api.SteelPick{Cool: 1000}}
	s, e := steel.Stepped(example(), austenite(), tick)
	want(t, "Stepped", s, e, api.SteelState{Austenite: whole, Wait: 500000, Temper: 5}, api.OK)
	s, e = steel.Stepped(example(), s, tick)
	want(t, "Stepped", s, e, api.SteelState{Austenite: 900000, Bainite: 100000, Wait: whole, Temper: 10}, api.OK)
	s, e = steel.Stepped(example(), austenite(), api.SteelTick{Kelvin: 450})
	want(t, "Stepped", s, e, api.SteelState{Austenite: 900000, Martensite: 100000, Temper: 5}, api.OK)
	s, e = steel.Stepped(example(), s, api.SteelTick{Kelvin: 300})
	want(t, "Stepped", s, e, api.SteelState{Austenite: 100000, Martensite: 900000, Temper: 5}, api.OK)
	n, e := steel.HardnessOf(example(), s)
	want(t, "HardnessOf", n, e, 740, api.OK)
}

// P4.2: steps and runs by the definition
func TestRuns(t *testing.T) {
	rulesOf(t, func(random *rand.Rand, r api.SteelRules) {
		s, curve, p := someState(random), someCurve(random, 12), somePick(random)
		after, e := steel.RunOf(r, s, api.SteelRun{Curve: curve, Pick: p})
		want(t, "RunOf", after, e, exactRun(r, s, curve, p), api.OK)
		kelvin := between(random, 1, 1500)
		next, e := steel.Stepped(r, s, api.SteelTick{Kelvin: kelvin, Pick: p})
		want(t, "Stepped", next, e, exactStep(r, s, kelvin, p), api.OK)
		n, e := steel.HardnessOf(r, s)
		want(t, "HardnessOf", n, e, exactHardness(r, s), api.OK)
		full := api.SteelPick{Heat: 1000, Cool: 1000, Cold: 1000}
		n, e = steel.GrainsOf(r, s, curve)
		want(t, "GrainsOf", n, e, exactRun(r, s, curve, full).Grain, api.OK)
		n, e = steel.IncubationOf(r, curve)
		want(t, "IncubationOf", n, e, exactRun(r, austenite(), curve, full).Wait, api.OK)
	})
}

// P4.2: a temperature that is exactly that of a knot belongs to it, and what lies between the kinds
func TestTemperaturesOfKnots(t *testing.T) {
	upper := api.SteelPick{Heat: 1000, Cool: 1000, Cold: 1000}
	for kelvin, after := range map[int]api.SteelState{
		1:    {Austenite: 50000, Martensite: 950000},
		300:  {Austenite: 50000, Martensite: 950000},
		301:  {Austenite: 700000, Martensite: 300000},
		399:  {Austenite: 700000, Martensite: 300000},
		400:  {Austenite: 700000, Martensite: 300000, Temper: 5},
		500:  {Austenite: 700000, Martensite: 300000, Temper: 5},
		501:  {Austenite: whole, Temper: 5},
		600:  {Austenite: whole, Temper: 5},
		601:  {Austenite: whole, Wait: 500000, Temper: 5},
		800:  {Austenite: whole, Wait: 500000, Temper: 5},
		801:  {Austenite: whole, Temper: 5},
		999:  {Austenite: whole, Temper: 5},
		1000: {Austenite: whole, Grain: 10},
		1199: {Austenite: whole, Grain: 10},
		1200: {Austenite: whole, Grain: 30},
		3000: {Austenite: whole, Grain: 30},
	} {
		s, e := steel.Stepped(example(), austenite(), api.SteelTick{Kelvin: kelvin, Pick: upper})
		want(t, "Stepped", s, e, after, api.OK)
	}
	without := changed(func(r *api.SteelRules) { r.Tempers = nil })
	s, e := steel.RunOf(without, austenite(), api.SteelRun{Curve: []int{801, 900, 999}, Pick: upper})
	want(t, "RunOf between the kinds", s, e, austenite(), api.OK)
}

// P4.2: edges of a hot step
func TestHotSteps(t *testing.T) {
	one := heats(heat(1000, 0, 7, 60000))
	for _, x := range []struct {
		s, after api.SteelState
		part     int
	}{
		{parent(), parent(), 0},
		{parent(), api.SteelState{Parent: whole}, 142},
		{parent(), api.SteelState{Parent: whole - 1, Austenite: 1, Grain: 60000}, 143},
		{parent(), api.SteelState{Parent: whole - 6, Austenite: 6, Grain: 60000}, 999},
		{parent(), api.SteelState{Parent: whole - 7, Austenite: 7, Grain: 60000}, 1000},
		{api.SteelState{Parent: 3, Austenite: whole - 3, Grain: 40001}, api.SteelState{Austenite: whole, Grain: 100000}, 1000},
		{api.SteelState{Parent: 3, Austenite: whole - 3, Grain: 39999}, api.SteelState{Austenite: whole, Grain: 99999}, 1000},
		{
			api.SteelState{Parent: 1, Austenite: 2, Bainite: 3, Martensite: whole - 6, Wait: 5, Grain: 1, Temper: 9},
			api.SteelState{Parent: whole - 2, Austenite: 2, Grain: 60001}, 0,
		},
		{api.SteelState{Bainite: 4, Martensite: whole - 4, Wait: whole, Grain: 8, Temper: 9}, api.SteelState{Parent: whole, Grain: 8}, 0},
	} {
		s, e := steel.Stepped(one, x.s, api.SteelTick{Kelvin: 1000, Pick: api.SteelPick{Heat: x.part, Cool: 1000}})
		want(t, "Stepped", s, e, x.after, api.OK)
	}
}

// P4.2: edges of a cold step; the three parts are done in their order
func TestColdSteps(t *testing.T) {
	r := api.SteelRules{
		Cools:   []api.SteelCool{cool(500, span(0, 400000), span(0, 300000))},
		Colds:   []api.SteelCold{cold(400, 0, 500000)},
		Tempers: []api.SteelTemper{temper(300, 600000)},
	}
	full := api.SteelPick{Cool: 1000, Cold: 1000}
	for _, x := range []struct {
		s, after api.SteelState
		kelvin   int
		p        api.SteelPick
	}{
		{api.SteelState{Austenite: whole, Wait: 599999}, api.SteelState{Austenite: whole, Wait: 999999, Temper: 600000}, 450, full},
		{api.SteelState{Austenite: whole, Wait: 600000}, api.SteelState{Austenite: 700000, Bainite: 300000, Wait: whole, Temper: 600000}, 450, full},
		{api.SteelState{Austenite: whole, Wait: 600001}, api.SteelState{Austenite: 700000, Bainite: 300000, Wait: whole, Temper: 600000}, 450, full},
		{api.SteelState{Parent: 800000, Austenite: 200000, Wait: whole}, api.SteelState{Parent: 800000, Bainite: 200000, Wait: whole, Temper: 600000}, 450, full},
		// Bainite forms before martensite.
		{api.SteelState{Austenite: whole, Wait: whole}, api.SteelState{Austenite: 350000, Bainite: 300000, Martensite: 350000, Wait: whole}, 299, full},
		// The incubation passes without austenite.
		{parent(), api.SteelState{Parent: whole, Wait: 400000}, 299, full},
		// Martensite never becomes less.
		{api.SteelState{Austenite: 400000, Martensite: 600000}, api.SteelState{Austenite: 400000, Martensite: 600000}, 299, api.SteelPick{Cold: 1000}},
		{api.SteelState{Austenite: 600001, Martensite: 399999}, api.SteelState{Austenite: 500000, Martensite: 500000}, 299, api.SteelPick{Cold: 1000}},
		{api.SteelState{Austenite: 999, Parent: whole - 999}, api.SteelState{Austenite: 500, Martensite: 499, Parent: whole - 999}, 299, api.SteelPick{Cold: 1000}},
		{api.SteelState{Martensite: whole, Temper: 400001}, api.SteelState{Martensite: whole, Temper: 1000000}, 300, api.SteelPick{}},
		{api.SteelState{Martensite: whole, Temper: 399999}, api.SteelState{Martensite: whole, Temper: 999999}, 3000, api.SteelPick{}},
		{api.SteelState{Austenite: whole}, api.SteelState{Austenite: whole, Temper: 600000}, 501, full},
	} {
		s, e := steel.Stepped(r, x.s, api.SteelTick{Kelvin: x.kelvin, Pick: x.p})
		want(t, "Stepped", s, e, x.after, api.OK)
	}
	all := api.SteelRules{Colds: []api.SteelCold{cold(400, whole, whole)}}
	s, e := steel.Stepped(all, api.SteelState{Parent: 1, Austenite: whole - 2, Martensite: 1}, api.SteelTick{Kelvin: 400})
	want(t, "a share of 10^6", s, e, api.SteelState{Parent: 1, Martensite: whole - 1}, api.OK)
	s, e = steel.Stepped(api.SteelRules{}, parent(), api.SteelTick{Kelvin: 3000})
	want(t, "without rules", s, e, parent(), api.OK)
}

// P4.2: the hardness of tempered martensite is at least that of bainite
func TestHardness(t *testing.T) {
	for temper, n := range map[int]int{0: 800, 1: 799, 399: 401, 400: 400, 401: 400, 1000000: 400} {
		got, e := steel.HardnessOf(example(), api.SteelState{Martensite: whole, Temper: temper})
		want(t, "HardnessOf martensite", got, e, n, api.OK)
		got, e = steel.HardnessOf(example(), api.SteelState{Bainite: whole, Temper: temper})
		want(t, "HardnessOf bainite", got, e, 400, api.OK)
	}
	for s, n := range map[api.SteelState]int{
		parent():                                    200,
		austenite():                                 250,
		{Parent: 500000, Austenite: 500000}:         225,
		{Parent: 500001, Austenite: 499999}:         224,
		{Martensite: whole - 1, Bainite: 1}:         799,
		{Parent: 999999, Martensite: 1}:             200,
		{Parent: 998333, Martensite: 1667}:          201,
		{Parent: 250000, Bainite: 750000}:           350,
		{Bainite: 1, Parent: 0, Austenite: 1e6 - 1}: 250,
	} {
		got, e := steel.HardnessOf(example(), s)
		want(t, "HardnessOf", got, e, n, api.OK)
	}
	got, e := steel.HardnessOf(hard(0, 1, 1, 1), api.SteelState{Parent: 1, Austenite: whole - 1})
	want(t, "just below the next hardness", got, e, 0, api.OK)
	got, e = steel.HardnessOf(hard(2000, 2000, 2000, 2000), parent())
	want(t, "the hardest", got, e, 2000, api.OK)
}

// P4.2: the incubation of curves
func TestIncubation(t *testing.T) {
	for _, x := range []struct {
		curve []int
		wait  int
	}{
		{nil, 0},
		{[]int{700}, 500000},
		{[]int{700, 801, 601}, whole},
		{[]int{700, 700, 700}, whole},
		{[]int{700, 600, 1}, 500000},
		{[]int{700, 700, 1000}, 0},
		{[]int{700, 3000, 700}, 500000},
	} {
		n, e := steel.IncubationOf(example(), x.curve)
		want(t, "IncubationOf", n, e, x.wait, api.OK)
	}
}

// P4.2: the upper ends of rates make grains
func TestGrains(t *testing.T) {
	r := heats(heat(1000, 0, 1, 7))
	n, e := steel.GrainsOf(r, parent(), []int{1000, 500, 1000})
	want(t, "GrainsOf", n, e, 14, api.OK)
	n, e = steel.GrainsOf(heats(heat(1000, 0, 0, 7)), parent(), []int{1000, 500, 1000})
	want(t, "GrainsOf without a rate", n, e, 0, api.OK)
	n, e = steel.GrainsOf(r, api.SteelState{Parent: whole, Grain: 99990}, []int{1000, 1000})
	want(t, "GrainsOf at the limit", n, e, 100000, api.OK)
	n, e = steel.GrainsOf(r, api.SteelState{Parent: whole, Grain: 5}, nil)
	want(t, "GrainsOf no curve", n, e, 5, api.OK)
}

// wantCurveError asks all functions of a curve that has an error.
func wantCurveError(t *testing.T, curve []int, wanted api.Errno) {
	t.Helper()
	s, e := steel.RunOf(example(), parent(), api.SteelRun{Curve: curve, Pick: api.SteelPick{Heat: -1}})
	want(t, "RunOf", s, e, api.SteelState{}, wanted)
	n, e := steel.IncubationOf(example(), curve)
	want(t, "IncubationOf", n, e, 0, wanted)
	n, e = steel.GrainsOf(example(), parent(), curve)
	want(t, "GrainsOf", n, e, 0, wanted)
	l, e := steel.CurvesFor(example(), parent(), api.SteelWanted{Curves: [][]int{nil, curve, {0}}, Hard: span(-1, 0)})
	want(t, "CurvesFor", l, e, []int{}, wanted)
}

// P4.2, P4.4: the error of a temperature, and of a curve
func TestErrorsOfCurves(t *testing.T) {
	for _, kelvin := range []int{0, -1, 3001, math.MinInt, math.MaxInt} {
		s, e := steel.Stepped(example(), parent(), api.SteelTick{Kelvin: kelvin, Pick: api.SteelPick{Cold: -1}})
		want(t, "Stepped", s, e, api.SteelState{}, api.ErrRange)
		wantCurveError(t, []int{1, 3000, kelvin}, api.ErrRange)
		wantCurveError(t, slices.Repeat([]int{kelvin}, api.MaxSteelTicks+1), api.ErrLarge)
	}
	s, e := steel.RunOf(example(), parent(), api.SteelRun{Curve: slices.Repeat([]int{1000}, api.MaxSteelTicks)})
	want(t, "the longest curve", s, e, api.SteelState{Austenite: whole, Grain: 2000}, api.OK)
	for _, kelvin := range []int{1, 3000} {
		_, e := steel.Stepped(example(), parent(), api.SteelTick{Kelvin: kelvin})
		want(t, "Stepped", nil, e, nil, api.OK)
	}
}

// P4.7
func TestSharesAddUp(t *testing.T) {
	rulesOf(t, func(random *rand.Rand, r api.SteelRules) {
		s, e := steel.RunOf(r, someState(random), api.SteelRun{Curve: someCurve(random, 30), Pick: somePick(random)})
		want(t, "the sum", s.Parent+s.Austenite+s.Bainite+s.Martensite, e, whole, api.OK)
		want(t, "CheckState after a run", nil, steel.CheckState(s), nil, api.OK)
	})
}

// P4.9
func TestHotSteel(t *testing.T) {
	hot := 0
	rulesOf(t, func(random *rand.Rand, r api.SteelRules) {
		if len(r.Heats) == 0 {
			s, e := steel.RunOf(r, parent(), api.SteelRun{Curve: someCurve(random, 12)})
			want(t, "austenite without Heats", s.Austenite, e, 0, api.OK)
			return
		}
		slow, p := someState(random), somePick(random)
		fast, faster := slow, p
		faster.Heat = between(random, p.Heat, 1000)
		for range 6 {
			kelvin := between(random, r.Heats[0].Kelvin, 3000)
			s, _ := steel.Stepped(r, slow, api.SteelTick{Kelvin: kelvin, Pick: p})
			f, _ := steel.Stepped(r, fast, api.SteelTick{Kelvin: kelvin, Pick: faster})
			if s.Austenite < slow.Austenite || f.Austenite < s.Austenite {
				t.Errorf("%v after %v, and %v", s, slow, f)
			}
			slow, fast = s, f
			hot++
		}
	})
	if hot < 1000 {
		t.Errorf("only %d hot steps", hot)
	}
}

// P4.10
func TestColdSteel(t *testing.T) {
	less := 0
	rulesOf(t, func(random *rand.Rand, r api.SteelRules) {
		r.Heats = nil
		s, p := someState(random), somePick(random)
		more := p
		more.Cold = between(random, p.Cold, 1000)
		curve := someCurve(random, 5)
		after, e := steel.RunOf(r, s, api.SteelRun{Curve: curve, Pick: p})
		if e != api.OK || after.Parent != s.Parent || after.Martensite < s.Martensite {
			t.Errorf("%v after %v", after, s)
		}
		r.Cools = nil
		a, _ := steel.RunOf(r, s, api.SteelRun{Curve: curve, Pick: p})
		b, _ := steel.RunOf(r, s, api.SteelRun{Curve: curve, Pick: more})
		if b.Martensite < a.Martensite {
			t.Errorf("%v is less than %v", b, a)
		}
		if a.Martensite < b.Martensite {
			less++
		}
	})
	if less < 100 {
		t.Errorf("only %d differ", less)
	}
}

// P4.13
func TestTempering(t *testing.T) {
	softer := 0
	rulesOf(t, func(random *rand.Rand, r api.SteelRules) {
		r.Heats, r.Cools, r.Colds = nil, nil, nil
		s := someState(random)
		after, e := steel.RunOf(r, s, api.SteelRun{Curve: someCurve(random, 5)})
		before, f := steel.HardnessOf(r, s)
		n, g := steel.HardnessOf(r, after)
		if e != api.OK || f != api.OK || g != api.OK || n > before {
			t.Errorf("%d after %d", n, before)
		}
		if n < before {
			softer++
		}
	})
	if softer < 100 {
		t.Errorf("only %d become softer", softer)
	}
}

// R3: arguments are not modified
func TestArgumentsStay(t *testing.T) {
	r, curve := example(), []int{1200, 700, 700, 300}
	for range 2 {
		s, e := steel.RunOf(r, parent(), api.SteelRun{Curve: curve})
		want(t, "RunOf", s, e, exactRun(example(), parent(), []int{1200, 700, 700, 300}, api.SteelPick{}), api.OK)
	}
	want(t, "the rules", r, api.OK, example(), api.OK)
	want(t, "the curve", curve, api.OK, []int{1200, 700, 700, 300}, api.OK)
}
