package circuit_test

import (
	"math"
	"slices"
	"testing"

	"martensite/api"
	"martensite/circuit"
)

// follow is a follow.
func follow(frequency, inductance int) api.CircuitFollow {
	return api.CircuitFollow{Frequency: frequency, Inductance: inductance}
}

// exampleLoop is the loop of the chapter's seventh example.
func exampleLoop() api.CircuitLoop {
	return api.CircuitLoop{Frequencies: span(2, 6), Inductances: span(1, 2), Elastance: 20, Band: 5, Drift: 1, Start: follow(4, 1)}
}

// inside is whether a number is in a range.
func inside(r api.Range, n int) bool { return n >= r.Lo && n <= r.Hi }

// followedByDefinition are the follows after one.
func followedByDefinition(x api.CircuitLoop, f api.CircuitFollow) []api.CircuitFollow {
	var l []api.CircuitFollow
	for n := x.Inductances.Lo; n <= x.Inductances.Hi; n++ {
		if n-f.Inductance > x.Drift || f.Inductance-n > x.Drift {
			continue
		}
		next := f.Frequency
		if off := f.Frequency*f.Frequency*n - x.Elastance; off > x.Band {
			next--
		} else if off < -x.Band {
			next++
		}
		l = append(l, follow(next, n))
	}
	return l
}

// compareFollows orders follows.
func compareFollows(f, g api.CircuitFollow) int {
	if f.Frequency != g.Frequency {
		return f.Frequency - g.Frequency
	}
	return f.Inductance - g.Inductance
}

// reachedInByDefinition are the reached follows, ordered.
func reachedInByDefinition(x api.CircuitLoop) []api.CircuitFollow {
	l := []api.CircuitFollow{x.Start}
	for i := 0; i < len(l); i++ {
		if !inside(x.Frequencies, l[i].Frequency) {
			continue
		}
		for _, g := range followedByDefinition(x, l[i]) {
			if !slices.Contains(l, g) {
				l = append(l, g)
			}
		}
	}
	slices.SortFunc(l, compareFollows)
	return l
}

// wayOutByDefinition is the first of all shortest ways out: from the ends back it is known how many steps are left, and of those that lead there the first is taken.
func wayOutByDefinition(x api.CircuitLoop) ([]api.CircuitFollow, api.Errno) {
	left := map[api.CircuitFollow]int{}
	all := reachedInByDefinition(x)
	for _, f := range all {
		if !inside(x.Frequencies, f.Frequency) {
			left[f] = 0
		}
	}
	for range all {
		for _, f := range all {
			if !inside(x.Frequencies, f.Frequency) {
				continue
			}
			for _, g := range followedByDefinition(x, f) {
				n, known := left[g]
				if m, ok := left[f]; known && (!ok || n+1 < m) {
					left[f] = n + 1
				}
			}
		}
	}
	if _, known := left[x.Start]; !known {
		return nil, api.ErrNone
	}
	way := []api.CircuitFollow{x.Start}
	for f := x.Start; left[f] > 0; {
		var nearer []api.CircuitFollow
		for _, g := range followedByDefinition(x, f) {
			if n, known := left[g]; known && n == left[f]-1 {
				nearer = append(nearer, g)
			}
		}
		f = slices.MinFunc(nearer, compareFollows)
		way = append(way, f)
	}
	return way, api.OK
}

// P1.4, P1.12
func TestLoopsByDefinition(t *testing.T) {
	found := map[api.Errno]int{}
	loops(func(x api.CircuitLoop) {
		if t.Failed() {
			return
		}
		want(t, "CheckLoop", x, circuit.CheckLoop(x), x, api.OK)
		for _, f := range []api.CircuitFollow{x.Start, follow(x.Frequencies.Hi, x.Inductances.Lo), follow(x.Frequencies.Lo, x.Inductances.Hi)} {
			l, e := circuit.Followed(x, f)
			want(t, "Followed", l, e, followedByDefinition(x, f), api.OK)
		}
		l, e := circuit.ReachedIn(x)
		want(t, "ReachedIn", l, e, reachedInByDefinition(x), api.OK)
		way, e := circuit.WayOut(x)
		v, f := wayOutByDefinition(x)
		want(t, "WayOut", way, e, v, f)
		i, g := circuit.CheckFollows(x, l)
		if accepted := g == api.OK; accepted != (e == api.ErrNone) {
			t.Errorf("CheckFollows of the reached follows: %d, %d, but WayOut: %d", i, g, e)
		}
		for i := 1; i < len(way); i++ {
			l, e := circuit.Followed(x, way[i-1])
			if e != api.OK || !slices.Contains(l, way[i]) {
				t.Errorf("not a way: %v", way)
			}
		}
		found[e]++
		if t.Failed() {
			t.Logf("of %+v", x)
		}
	})
	if found[api.OK] < 100 || found[api.ErrNone] < 100 {
		t.Errorf("too few loops: %v", found)
	}
}

// P1.4
func TestCheckLoop(t *testing.T) {
	for _, x := range []struct {
		change func(*api.CircuitLoop)
		e      api.Errno
	}{
		{func(x *api.CircuitLoop) {}, api.OK},
		{func(x *api.CircuitLoop) { x.Frequencies, x.Start = span(1, 12), follow(1, 1) }, api.OK},
		{func(x *api.CircuitLoop) { x.Frequencies, x.Start = span(1, 12), follow(12, 2) }, api.OK},
		{func(x *api.CircuitLoop) { x.Inductances = span(0, 4) }, api.OK},
		{func(x *api.CircuitLoop) { x.Elastance, x.Band, x.Drift = 600, 600, 4 }, api.OK},
		{func(x *api.CircuitLoop) { x.Elastance, x.Band, x.Drift = 0, 0, 0 }, api.OK},
		{func(x *api.CircuitLoop) { x.Frequencies.Lo, x.Inductances = 0, span(2, 1) }, api.ErrRange},
		{func(x *api.CircuitLoop) { x.Frequencies.Lo = 13 }, api.ErrRange},
		{func(x *api.CircuitLoop) { x.Frequencies.Hi, x.Start.Frequency = 13, 99 }, api.ErrRange},
		{func(x *api.CircuitLoop) { x.Frequencies.Hi = 0 }, api.ErrRange},
		{func(x *api.CircuitLoop) { x.Frequencies, x.Inductances.Lo = span(6, 2), -1 }, api.ErrRange},
		{func(x *api.CircuitLoop) { x.Frequencies, x.Inductances.Hi = span(6, 2), 5 }, api.ErrRange},
		{func(x *api.CircuitLoop) { x.Frequencies, x.Elastance = span(6, 2), -1 }, api.ErrRange},
		{func(x *api.CircuitLoop) { x.Frequencies, x.Elastance = span(6, 2), 601 }, api.ErrRange},
		{func(x *api.CircuitLoop) { x.Frequencies, x.Band = span(6, 2), -1 }, api.ErrRange},
		{func(x *api.CircuitLoop) { x.Frequencies, x.Band = span(6, 2), 601 }, api.ErrRange},
		{func(x *api.CircuitLoop) { x.Frequencies, x.Drift = span(6, 2), -1 }, api.ErrRange},
		{func(x *api.CircuitLoop) { x.Frequencies, x.Drift = span(6, 2), 5 }, api.ErrRange},
		{func(x *api.CircuitLoop) { x.Drift = math.MaxInt }, api.ErrRange},
		{func(x *api.CircuitLoop) { x.Frequencies = span(6, 2) }, api.ErrOrder},
		{func(x *api.CircuitLoop) { x.Inductances, x.Start = span(2, 1), follow(9, 9) }, api.ErrOrder},
		{func(x *api.CircuitLoop) { x.Start.Frequency = 1 }, api.ErrMissing},
		{func(x *api.CircuitLoop) { x.Start.Frequency = 7 }, api.ErrMissing},
		{func(x *api.CircuitLoop) { x.Start.Inductance = 0 }, api.ErrMissing},
		{func(x *api.CircuitLoop) { x.Start.Inductance = 3 }, api.ErrMissing},
	} {
		y := exampleLoop()
		x.change(&y)
		want(t, "CheckLoop", y, circuit.CheckLoop(y), y, x.e)
		if x.e == api.OK {
			continue
		}
		l, e := circuit.Followed(y, follow(99, 99))
		want(t, "Followed", l, e, []api.CircuitFollow{}, x.e)
		l, e = circuit.ReachedIn(y)
		want(t, "ReachedIn", l, e, []api.CircuitFollow{}, x.e)
		l, e = circuit.WayOut(y)
		want(t, "WayOut", l, e, []api.CircuitFollow{}, x.e)
		i, e := circuit.CheckFollows(y, make([]api.CircuitFollow, api.MaxCircuitFollows+1))
		want(t, "CheckFollows", i, e, 0, x.e)
	}
}

// P1.4, examples 7 and 8
func TestLoopOfExamples(t *testing.T) {
	x := exampleLoop()
	l, e := circuit.Followed(x, follow(4, 1))
	want(t, "Followed", l, e, []api.CircuitFollow{follow(4, 1), follow(3, 2)}, api.OK)
	l, e = circuit.Followed(x, follow(3, 2))
	want(t, "Followed by another one", l, e, []api.CircuitFollow{follow(4, 1), follow(3, 2)}, api.OK)
	l, e = circuit.ReachedIn(x)
	want(t, "ReachedIn", l, e, []api.CircuitFollow{follow(3, 2), follow(4, 1)}, api.OK)
	i, e := circuit.CheckFollows(x, l)
	want(t, "CheckFollows", i, e, 0, api.OK)
	l, e = circuit.WayOut(x)
	want(t, "WayOut", l, e, []api.CircuitFollow{}, api.ErrNone)
	x.Band = 0
	l, e = circuit.ReachedIn(x)
	want(t, "ReachedIn without a band", l, e, []api.CircuitFollow{follow(3, 2), follow(4, 1), follow(4, 2), follow(5, 1)}, api.OK)
	for _, f := range []api.CircuitFollow{follow(1, 1), follow(7, 1), follow(4, 0), follow(4, 3), follow(math.MaxInt, 1), follow(4, math.MinInt)} {
		l, e := circuit.Followed(x, f)
		want(t, "Followed from elsewhere", l, e, []api.CircuitFollow{}, api.ErrMissing)
	}
}

// P1.4: out of both ends, one inductance, the first of several ways
func TestWayOut(t *testing.T) {
	x := exampleLoop()
	x.Frequencies = span(4, 6)
	l, e := circuit.WayOut(x)
	want(t, "below", l, e, []api.CircuitFollow{follow(4, 1), follow(3, 2)}, api.OK)
	l, e = circuit.ReachedIn(x)
	want(t, "ReachedIn with one that is out", l, e, []api.CircuitFollow{follow(3, 2), follow(4, 1)}, api.OK)
	x = api.CircuitLoop{Frequencies: span(4, 4), Inductances: span(0, 4), Elastance: 32, Drift: 4, Start: follow(4, 2)}
	l, e = circuit.WayOut(x)
	want(t, "the lexicographically first one", l, e, []api.CircuitFollow{follow(4, 2), follow(3, 3)}, api.OK)
	x.Drift = 0
	l, e = circuit.WayOut(x)
	want(t, "without a drift", l, e, []api.CircuitFollow{}, api.ErrNone)
	l, e = circuit.ReachedIn(x)
	want(t, "one inductance", l, e, []api.CircuitFollow{follow(4, 2)}, api.OK)
	x = api.CircuitLoop{Frequencies: span(1, 2), Inductances: span(0, 0), Elastance: 9, Start: follow(1, 0)}
	l, e = circuit.WayOut(x)
	want(t, "above", l, e, []api.CircuitFollow{follow(1, 0), follow(2, 0), follow(3, 0)}, api.OK)
	x = api.CircuitLoop{Frequencies: span(1, 12), Inductances: span(4, 4), Start: follow(2, 4)}
	l, e = circuit.WayOut(x)
	want(t, "to 0", l, e, []api.CircuitFollow{follow(2, 4), follow(1, 4), follow(0, 4)}, api.OK)
}

// P1.4
func TestCheckFollows(t *testing.T) {
	x := exampleLoop()
	a, b := follow(4, 1), follow(3, 2)
	for _, y := range []struct {
		what  string
		l     []api.CircuitFollow
		index int
		e     api.Errno
	}{
		{"a proof in any order", []api.CircuitFollow{a, b}, 0, api.OK},
		{"a larger proof", []api.CircuitFollow{follow(5, 1), follow(4, 2), a, b}, 0, api.OK},
		{"too many", make([]api.CircuitFollow, api.MaxCircuitFollows+1), 0, api.ErrLarge},
		{"as many as may be", make([]api.CircuitFollow, api.MaxCircuitFollows), 0, api.ErrBreak},
		{"nothing", nil, 0, api.ErrGap},
		{"out below", []api.CircuitFollow{b, follow(1, 3)}, 1, api.ErrBreak},
		{"out above", []api.CircuitFollow{b, follow(7, 0), follow(4, 3)}, 1, api.ErrBreak},
		{"no inductance", []api.CircuitFollow{b, follow(4, 3), follow(7, 0)}, 1, api.ErrMissing},
		{"no inductance below", []api.CircuitFollow{b, b, follow(4, 0)}, 1, api.ErrDouble},
		{"an inductance below", []api.CircuitFollow{b, follow(4, 0), b}, 1, api.ErrMissing},
		{"twice", []api.CircuitFollow{b, follow(5, 1), b}, 2, api.ErrDouble},
		{"without the start", []api.CircuitFollow{b}, 0, api.ErrGap},
		{"without the start, with a gap later", []api.CircuitFollow{follow(2, 1), b}, 0, api.ErrGap},
		{"with a gap", []api.CircuitFollow{a}, 0, api.ErrGap},
		{"with a gap later", []api.CircuitFollow{b, a, follow(6, 1)}, 2, api.ErrGap},
	} {
		i, e := circuit.CheckFollows(x, y.l)
		want(t, y.what, i, e, y.index, y.e)
	}
	x.Frequencies = span(4, 6)
	i, e := circuit.CheckFollows(x, []api.CircuitFollow{follow(5, 1), a})
	want(t, "a follow that leads out", i, e, 0, api.ErrGap)
}
