package field_test

import (
	"math"
	"math/rand"
	"testing"

	"martensite/api"
	"martensite/field"
)

// examplePair is the pair of the document's examples.
func examplePair() api.FieldPair {
	return api.FieldPair{First: drive(1, false, false), Second: drive(2, false, false)}
}

// twoByDefinition are the watts of a pair.
func twoByDefinition(x api.FieldLadder, p api.FieldPair, watts [2]int) []int {
	l := wattsByDefinition(x, p.First, watts[0])
	for k, n := range wattsByDefinition(x, p.Second, watts[1]) {
		l[k] += n
	}
	return l
}

// P2.5, example 6
func TestTwoWattsOfExample(t *testing.T) {
	l, e := field.TwoWatts(example(), examplePair(), [2]int{60, 60})
	want(t, "TwoWatts", l, e, []int{90, 30}, api.OK)
	l, e = field.TwoWatts(example(), examplePair(), [2]int{22, 98})
	want(t, "TwoWatts of a split", l, e, []int{95, 25}, api.OK)
	l, e = field.TwoWatts(example(), examplePair(), [2]int{0, 0})
	want(t, "no watts", l, e, []int{0, 0}, api.OK)
	l, e = field.TwoWatts(example(), examplePair(), [2]int{api.MaxFieldWatts, api.MaxFieldWatts})
	want(t, "all watts", l, e, []int{149999, 50001}, api.OK)
}

// P2.5
func TestTwoWattsByDefinition(t *testing.T) {
	random := rand.New(rand.NewSource(3))
	ladders(func(x api.FieldLadder, d api.FieldDrive) {
		p := api.FieldPair{First: d, Second: someDrive(random, x)}
		watts := [2]int{random.Intn(api.MaxFieldWatts + 1), random.Intn(500)}
		l, e := field.TwoWatts(x, p, watts)
		want(t, "TwoWatts", l, e, twoByDefinition(x, p, watts), api.OK)
	})
}

// P2.5: the error of both totals
func TestErrorsOfTwoWatts(t *testing.T) {
	for _, watts := range [][2]int{{-1, 0}, {0, -1}, {api.MaxFieldWatts + 1, 0}, {0, api.MaxFieldWatts + 1}, {math.MinInt, 0}, {0, math.MaxInt}} {
		l, e := field.TwoWatts(example(), examplePair(), watts)
		want(t, "TwoWatts", l, e, []int{}, api.ErrRange)
	}
}

// P2.5, example 6
func TestSplitForExample(t *testing.T) {
	for _, c := range []struct {
		total int
		watts []api.Range
		split int
		e     api.Errno
	}{
		{120, []api.Range{span(85, 95), span(20, 35)}, 22, api.OK},
		{120, []api.Range{span(85, 96), span(20, 35)}, 16, api.OK},
		{120, []api.Range{span(0, 120), span(0, 120)}, 0, api.OK},
		{120, []api.Range{span(80, 80), span(40, 40)}, 112, api.OK},
		{120, []api.Range{span(79, 79), span(41, 41)}, 118, api.OK},
		{120, []api.Range{span(0, api.MaxFieldWatts), span(0, 19)}, 0, api.ErrNone},
		{120, []api.Range{span(0, 78), span(0, 120)}, 0, api.ErrNone},
		{0, []api.Range{span(0, 0), span(0, 0)}, 0, api.OK},
		{0, []api.Range{span(0, 0), span(1, 1)}, 0, api.ErrNone},
		{1, []api.Range{span(1, 1), span(0, 0)}, 0, api.ErrNone},
	} {
		n, e := field.SplitFor(example(), examplePair(), api.FieldShape{Total: c.total, Watts: c.watts})
		want(t, "SplitFor", n, e, c.split, c.e)
	}
}

// P2.5: only all watts in the first drive have the shape
func TestSplitOfAllWatts(t *testing.T) {
	p := api.FieldPair{First: drive(2, false, false), Second: drive(1, false, false)}
	n, e := field.SplitFor(example(), p, api.FieldShape{Total: 6, Watts: []api.Range{span(5, 6), span(0, 1)}})
	want(t, "SplitFor", n, e, 6, api.OK)
}

// P2.5: the minimum split by trying all
func TestSplitByDefinition(t *testing.T) {
	random := rand.New(rand.NewSource(4))
	found := map[api.Errno]int{}
	for i := range 400 {
		x := someLadder(random, 1+i%api.MaxFieldShells)
		p := api.FieldPair{First: someDrive(random, x), Second: someDrive(random, x)}
		w := api.FieldShape{Total: random.Intn(60)}
		for _, n := range twoByDefinition(x, p, [2]int{w.Total / 2, w.Total - w.Total/2}) {
			w.Watts = append(w.Watts, span(max(0, n-random.Intn(3)), n+random.Intn(3)))
		}
		if i%3 == 0 {
			w.Watts = someRanges(random, len(x.Shells), 0, 60)
		}
		split, wanted := 0, api.ErrNone
		for n := w.Total; n >= 0; n-- {
			fits := true
			for k, watts := range twoByDefinition(x, p, [2]int{n, w.Total - n}) {
				fits = fits && w.Watts[k].Lo <= watts && watts <= w.Watts[k].Hi
			}
			if fits {
				split, wanted = n, api.OK
			}
		}
		found[wanted]++
		n, e := field.SplitFor(x, p, w)
		want(t, "SplitFor", n, e, split, wanted)
	}
	if found[api.OK] < 50 || found[api.ErrNone] < 50 {
		t.Errorf("too few cases: %v", found)
	}
}

// P2.5: the largest total
func TestLargeSplit(t *testing.T) {
	p := api.FieldPair{First: cold(largest(), 8), Second: cold(largest(), 1)}
	all := span(0, api.MaxFieldWatts)
	n, e := field.SplitFor(largest(), p, api.FieldShape{Total: api.MaxFieldWatts, Watts: []api.Range{all, all, all, span(50000, api.MaxFieldWatts)}})
	want(t, "SplitFor", n, e, 0, api.ErrNone)
}

// P2.5, edge case: two equal drives
func TestEqualDrives(t *testing.T) {
	p := api.FieldPair{First: drive(1, false, false), Second: drive(1, false, false)}
	for n := range 101 {
		l, e := field.TwoWatts(example(), p, [2]int{n, 100 - n})
		if e != api.OK || l[0] != 66 && l[0] != 65 || l[0]+l[1] != 100 {
			t.Errorf("TwoWatts with %d of 100: %v, %d", n, l, e)
		}
	}
}

// P2.5: the errors of shapes, in their order
func TestErrorsOfShapes(t *testing.T) {
	ok := span(0, api.MaxFieldWatts)
	for _, c := range []struct {
		total int
		watts []api.Range
		e     api.Errno
	}{
		{-1, nil, api.ErrRange},
		{api.MaxFieldWatts + 1, []api.Range{ok}, api.ErrRange},
		{math.MaxInt, []api.Range{ok, ok}, api.ErrRange},
		{1, nil, api.ErrShape},
		{1, []api.Range{span(-1, 0)}, api.ErrShape},
		{1, []api.Range{ok, ok, span(1, 0)}, api.ErrShape},
		{1, []api.Range{ok, span(-1, 0)}, api.ErrRange},
		{1, []api.Range{ok, span(0, api.MaxFieldWatts+1)}, api.ErrRange},
		{1, []api.Range{span(api.MaxFieldWatts+1, api.MaxFieldWatts), ok}, api.ErrRange},
		{1, []api.Range{span(0, -1), ok}, api.ErrRange},
		{1, []api.Range{span(math.MinInt, math.MaxInt), ok}, api.ErrRange},
		{1, []api.Range{span(1, 0), ok}, api.ErrOrder},
		{1, []api.Range{ok, span(api.MaxFieldWatts, 0)}, api.ErrOrder},
		{1, []api.Range{span(1, 0), span(-1, 0)}, api.ErrOrder},
		{1, []api.Range{span(-1, 0), span(1, 0)}, api.ErrRange},
		{api.MaxFieldWatts, []api.Range{ok, ok}, api.OK},
	} {
		n, e := field.SplitFor(example(), examplePair(), api.FieldShape{Total: c.total, Watts: c.watts})
		want(t, "SplitFor", n, e, 0, c.e)
	}
}
