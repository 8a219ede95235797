package steel_test

import (
	"math"
	"math/rand"
	"slices"
	"testing"

	"martensite/api"
	"martensite/steel"
)

// badBox is a box with an error.
type badBox struct {
	b api.SteelBox
	e api.Errno
}

// about is the box of parent steel alone with a change.
func about(change func(*api.SteelBox)) api.SteelBox {
	b := api.SteelBox{Parent: one(whole)}
	change(&b)
	return b
}

// badBoxes are boxes with errors; where there are several, the one that is listed first.
func badBoxes() []badBox {
	l := []badBox{
		{api.SteelBox{}, api.ErrNone},
		{api.SteelBox{Parent: span(0, whole-1)}, api.ErrNone},
		{api.SteelBox{Parent: one(whole), Austenite: span(1, 2)}, api.ErrNone},
		{api.SteelBox{Parent: one(250001), Austenite: one(250000), Bainite: one(250000), Martensite: span(250000, whole)}, api.ErrNone},
		{api.SteelBox{Parent: span(0, 250000), Austenite: one(250000), Bainite: one(250000), Martensite: one(249999)}, api.ErrNone},
		{api.SteelBox{Wait: one(whole)}, api.ErrNone},
		// The ranges are checked one by one.
		{api.SteelBox{Parent: span(2, 1), Austenite: one(-1)}, api.ErrOrder},
		{api.SteelBox{Parent: one(-1), Austenite: span(2, 1)}, api.ErrRange},
		{api.SteelBox{Wait: span(2, 1), Grain: one(-1)}, api.ErrOrder},
		{api.SteelBox{Grain: one(-1), Temper: span(2, 1)}, api.ErrRange},
		{about(func(b *api.SteelBox) { b.Grain = span(0, 100001) }), api.ErrRange},
		{about(func(b *api.SteelBox) { b.Temper = span(0, 1000001) }), api.ErrRange},
	}
	for _, r := range []api.Range{span(-1, 0), span(0, whole+1), span(whole+1, 0), span(0, -1), span(math.MinInt, math.MaxInt)} {
		for _, set := range setters() {
			l = append(l, badBox{about(func(b *api.SteelBox) { set(b, r) }), api.ErrRange})
		}
	}
	for _, set := range setters() {
		l = append(l, badBox{about(func(b *api.SteelBox) { set(b, span(6, 5)) }), api.ErrOrder})
	}
	return l
}

// setters set each range of a box.
func setters() []func(*api.SteelBox, api.Range) {
	return []func(*api.SteelBox, api.Range){
		func(b *api.SteelBox, r api.Range) { b.Parent = r },
		func(b *api.SteelBox, r api.Range) { b.Austenite = r },
		func(b *api.SteelBox, r api.Range) { b.Bainite = r },
		func(b *api.SteelBox, r api.Range) { b.Martensite = r },
		func(b *api.SteelBox, r api.Range) { b.Wait = r },
		func(b *api.SteelBox, r api.Range) { b.Grain = r },
		func(b *api.SteelBox, r api.Range) { b.Temper = r },
	}
}

// widestBox contains all states.
func widestBox() api.SteelBox {
	all := span(0, whole)
	return api.SteelBox{Parent: all, Austenite: all, Bainite: all, Martensite: all, Wait: all, Grain: span(0, 100000), Temper: span(0, 1000000)}
}

// P4.3
func TestCheckBox(t *testing.T) {
	for _, x := range badBoxes() {
		want(t, "CheckBox", nil, steel.CheckBox(x.b), nil, x.e)
	}
	for _, b := range []api.SteelBox{
		widestBox(), about(func(*api.SteelBox) {}),
		{Parent: one(250000), Austenite: one(250000), Bainite: one(250000), Martensite: one(250000)},
		{Parent: span(0, 250000), Austenite: span(1, 250000), Bainite: span(2, 250000), Martensite: span(3, 250000)},
		{Parent: span(whole, whole), Austenite: span(0, whole), Grain: one(100000), Temper: one(1000000)},
	} {
		want(t, "CheckBox", nil, steel.CheckBox(b), nil, api.OK)
	}
}

// P4.3
func TestBoxOf(t *testing.T) {
	s := api.SteelState{Parent: 1, Austenite: 2, Bainite: 3, Martensite: whole - 6, Wait: 5, Grain: 6, Temper: 7}
	b, e := steel.BoxOf(s)
	want(t, "BoxOf", b, e, api.SteelBox{Parent: one(1), Austenite: one(2), Bainite: one(3), Martensite: one(whole - 6), Wait: one(5), Grain: one(6), Temper: one(7)}, api.OK)
	want(t, "CheckBox of a state", nil, steel.CheckBox(b), nil, api.OK)
}

// P4.3, examples 4 and 5
func TestBoxExamples(t *testing.T) {
	b, e := steel.BoxOf(austenite())
	want(t, "BoxOf", b, e, api.SteelBox{Austenite: one(whole)}, api.OK)
	after := api.SteelBox{Austenite: span(900000, whole), Bainite: span(0, 100000), Wait: span(400000, whole), Temper: one(10)}
	x, e := steel.BoxRun(example(), b, []api.Range{one(700), one(700)})
	want(t, "BoxRun", x, e, after, api.OK)
	band, e := steel.BandOf(example(), after)
	want(t, "BandOf", band, e, span(250, 265), api.OK)
	x, e = steel.BoxRun(example(), b, nil)
	want(t, "BoxRun without ranges", x, e, b, api.OK)
}

// P4.3: boxes by the definition, for which all ends and all temperatures are tried
func TestBoxSteps(t *testing.T) {
	rulesOf(t, func(random *rand.Rand, r api.SteelRules) {
		b := someBox(random, someState(random))
		want(t, "CheckBox", nil, steel.CheckBox(b), nil, api.OK)
		curve := around(random, someCurve(random, 6))
		x, e := steel.BoxRun(r, b, curve)
		want(t, "BoxRun", x, e, exactBoxRun(r, b, curve), api.OK)
		want(t, "CheckBox after a run", nil, steel.CheckBox(x), nil, api.OK)
		if len(curve) > 0 {
			x, e = steel.BoxStep(r, b, curve[0])
			want(t, "BoxStep", x, e, exactBoxStep(r, b, curve[0]), api.OK)
		}
	})
}

// P4.3: edges of the steps of boxes
func TestBoxEdges(t *testing.T) {
	r := api.SteelRules{
		Heats: []api.SteelHeat{heat(1000, 300000, 500000, 60000)},
		Cools: []api.SteelCool{cool(500, span(400000, 500000), span(1000, 2000))},
		Colds: []api.SteelCold{cold(300, 400000, 600000)},
	}
	for _, x := range []struct {
		b      api.SteelBox
		kelvin api.Range
		after  api.SteelBox
	}{
		// The parent range has no more than the whole.
		{widestBox(), one(1000), api.SteelBox{Parent: span(0, 700000), Austenite: span(300000, whole), Grain: span(60000, 100000)}},
		// Only the upper end has austenite.
		{about(func(b *api.SteelBox) { b.Bainite = span(0, 5) }), one(900), about(func(b *api.SteelBox) { b.Bainite = span(0, 5) })},
		// Only the upper end of the incubation is whole.
		{api.SteelBox{Austenite: span(500, whole), Bainite: span(0, 999500), Wait: span(500000, 599999)}, one(500),
			api.SteelBox{Austenite: span(0, whole), Bainite: span(0, whole), Wait: span(900000, whole)}},
		{api.SteelBox{Austenite: span(500, whole), Bainite: span(0, 999500), Wait: span(600000, 700000)}, one(500),
			api.SteelBox{Austenite: span(0, 999000), Bainite: span(500, whole), Wait: one(whole)}},
		{api.SteelBox{Austenite: one(whole), Wait: span(0, 499999)}, one(500),
			api.SteelBox{Austenite: one(whole), Wait: span(400000, 999999)}},
		// Martensite has no more than the whole, and what is left counts with all that formed.
		{api.SteelBox{Austenite: span(0, whole), Martensite: span(0, whole)}, one(300),
			api.SteelBox{Austenite: span(0, whole), Martensite: span(0, whole), Wait: span(400000, 500000)}},
		{api.SteelBox{Austenite: span(400000, 600000), Martensite: span(400000, 600000)}, one(300),
			api.SteelBox{Austenite: span(320000, 600000), Martensite: span(400000, 720000), Wait: span(400000, 500000)}},
		// A range over two kinds: the hull of the steps.
		{api.SteelBox{Austenite: one(whole)}, span(300, 301),
			api.SteelBox{Austenite: span(400000, whole), Martensite: span(0, 600000), Wait: span(400000, 500000)}},
		{api.SteelBox{Austenite: one(whole)}, span(960, 1000),
			api.SteelBox{Austenite: one(whole), Grain: span(0, 60000)}},
		{api.SteelBox{Martensite: one(whole)}, span(999, 1000),
			api.SteelBox{Parent: span(0, 700000), Austenite: span(0, 500000), Martensite: span(0, whole), Grain: span(0, 60000)}},
	} {
		b, e := steel.BoxStep(r, x.b, x.kelvin)
		want(t, "BoxStep", b, e, x.after, api.OK)
	}
	slow := heats(heat(1000, 0, 1, 7))
	b, e := steel.BoxStep(slow, about(func(b *api.SteelBox) { b.Grain = one(2) }), one(1000))
	want(t, "grains of the upper end", b, e, api.SteelBox{Parent: span(whole-1, whole), Austenite: span(0, 1), Grain: span(2, 9)}, api.OK)
}

// P4.3: ranges of temperatures that are 50 kelvins wide contain several knots
func TestWideSteps(t *testing.T) {
	random := rand.New(rand.NewSource(6))
	several := 0
	for range 2000 {
		r := someRules(random)
		lo := 1 + random.Intn(1400)
		b, kelvins := someBox(random, someState(random)), span(lo, lo+50)
		x, e := steel.BoxStep(r, b, kelvins)
		want(t, "BoxStep", x, e, exactBoxStep(r, b, kelvins), api.OK)
		first, _ := steel.BoxStep(r, b, one(lo))
		last, _ := steel.BoxStep(r, b, one(lo+50))
		if x != first && x != last {
			several++
		}
	}
	if several < 200 {
		t.Errorf("only %d steps differ from those at the ends", several)
	}
}

// P4.3: bands by the definition, for which all vertices are tried
func TestBands(t *testing.T) {
	wide := 0
	rulesOf(t, func(random *rand.Rand, r api.SteelRules) {
		b := someBox(random, someState(random))
		band, e := steel.BandOf(r, b)
		want(t, "BandOf", band, e, exactBand(r, b), api.OK)
		if band.Lo < band.Hi {
			wide++
		}
		s := someState(random)
		of, _ := steel.BoxOf(s)
		band, e = steel.BandOf(r, of)
		want(t, "BandOf a state", band, e, one(exactHardness(r, s)), api.OK)
	})
	if wide < 500 {
		t.Errorf("only %d bands are wide", wide)
	}
	band, e := steel.BandOf(example(), widestBox())
	want(t, "BandOf all states", band, e, span(200, 800), api.OK)
	tempered := api.SteelBox{Bainite: span(0, 300000), Martensite: span(0, whole), Temper: span(100, 300)}
	band, e = steel.BandOf(example(), tempered)
	want(t, "BandOf tempered martensite", band, e, span(470, 700), api.OK)
	tempered.Temper.Hi = 401
	band, e = steel.BandOf(example(), tempered)
	want(t, "BandOf soft martensite", band, e, span(400, 700), api.OK)
}

// P4.3, P4.4: the error of a range of temperatures
func TestErrorsOfRanges(t *testing.T) {
	b := api.SteelBox{Parent: one(whole)}
	for _, x := range []struct {
		r api.Range
		e api.Errno
	}{
		{span(0, 1), api.ErrRange},
		{span(0, -1), api.ErrRange},
		{span(3001, 1), api.ErrRange},
		{span(5, 0), api.ErrRange},
		{span(2999, 3001), api.ErrRange},
		{span(1, 3001), api.ErrRange},
		{span(math.MinInt, math.MaxInt), api.ErrRange},
		{span(math.MaxInt, math.MinInt), api.ErrRange},
		{span(3000, 1), api.ErrOrder},
		{span(6, 5), api.ErrOrder},
		{span(1, 52), api.ErrLarge},
		{span(1, 3000), api.ErrLarge},
		{span(2949, 3000), api.ErrLarge},
		{span(1, 51), api.OK},
		{span(2950, 3000), api.OK},
		{one(1), api.OK},
		{one(3000), api.OK},
	} {
		_, e := steel.BoxStep(example(), b, x.r)
		want(t, "BoxStep", nil, e, nil, x.e)
		// A later range has an error, too.
		first := x.e
		if first == api.OK {
			first = api.ErrRange
		}
		_, e = steel.BoxRun(example(), b, []api.Range{one(1), x.r, span(0, 1)})
		want(t, "BoxRun", nil, e, nil, first)
		l, e := steel.ProfileOf(example(), b, [][]api.Range{nil, {one(1), x.r}, {span(1, 0)}})
		want(t, "ProfileOf", l, e, []api.Range{}, first)
	}
	long := slices.Repeat([]api.Range{one(1000)}, api.MaxSteelTicks)
	x, e := steel.BoxRun(example(), b, long)
	want(t, "the longest curve", x, e, api.SteelBox{Austenite: one(whole), Grain: one(2000)}, api.OK)
	x, e = steel.BoxRun(example(), b, append(slices.Clone(long), span(0, 0)))
	want(t, "BoxRun", x, e, api.SteelBox{}, api.ErrLarge)
}

// P4.8
func TestEnclosed(t *testing.T) {
	cold := 0
	rulesOf(t, func(random *rand.Rand, r api.SteelRules) {
		b := someBox(random, someState(random))
		curve := someCurve(random, 8)
		x, e := steel.BoxRun(r, b, around(random, curve))
		band, f := steel.BandOf(r, x)
		for range 3 {
			s, g := steel.RunOf(r, someIn(random, b), api.SteelRun{Curve: curve, Pick: somePick(random)})
			n, h := steel.HardnessOf(r, s)
			if e != api.OK || f != api.OK || g != api.OK || h != api.OK || !isIn(s, x) || n < band.Lo || n > band.Hi {
				t.Errorf("%+v with the hardness %d does not lie in %+v with the band %v", s, n, x, band)
			}
			if s.Martensite > 0 {
				cold++
			}
		}
	})
	if cold < 500 {
		t.Errorf("only %d states have martensite", cold)
	}
}
