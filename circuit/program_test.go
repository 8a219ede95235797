package circuit_test

import (
	"fmt"
	"slices"
	"testing"

	"martensite/api"
	"martensite/circuit"
)

const example = "u 0 + 3;u 0 - 2;l 0 + 3;l 0 - 2"

// at is a point.
func at(next int, lost bool, l ...int) api.CircuitPoint {
	return api.CircuitPoint{Next: next, State: state(l...), Lost: lost}
}

// afterByDefinition are the points after a point, and whether it is bad.
func afterByDefinition(b api.CircuitBridge, l []api.CircuitCommand, x api.CircuitPoint) ([]api.CircuitPoint, bool) {
	c := l[x.Next]
	done := doneByDefinition(b, x.State, c)
	if shortByDefinition(done) >= 0 {
		return nil, true
	}
	next := (x.Next + 1) % len(l)
	after := []api.CircuitPoint{at(next, x.Lost, waitedByDefinition(done, c.Wait).Switches...)}
	if !x.Lost {
		after = append(after, at(next, true, waitedByDefinition(x.State, c.Wait).Switches...))
	}
	return after, false
}

// reachedByDefinition are the reached points, ordered.
func reachedByDefinition(b api.CircuitBridge, l []api.CircuitCommand) []api.CircuitPoint {
	points := []api.CircuitPoint{at(0, false, make([]int, 2*b.Legs)...)}
	seen := map[string]bool{fmt.Sprint(points[0]): true}
	for i := 0; i < len(points); i++ {
		after, _ := afterByDefinition(b, l, points[i])
		for _, y := range after {
			if !seen[fmt.Sprint(y)] {
				seen[fmt.Sprint(y)] = true
				points = append(points, y)
			}
		}
	}
	slices.SortFunc(points, func(x, y api.CircuitPoint) int {
		if x.Next != y.Next {
			return x.Next - y.Next
		}
		if x.Lost != y.Lost {
			if x.Lost {
				return 1
			}
			return -1
		}
		return slices.Compare(x.State.Switches, y.State.Switches)
	})
	return points
}

// shortAfter is whether the commands lead to a bad point after so many of them, if the one with an index is lost (-1: none is).
func shortAfter(b api.CircuitBridge, l []api.CircuitCommand, commands, lost int) bool {
	s := state(make([]int, 2*b.Legs)...)
	for i := range commands + 1 {
		c := l[i%len(l)]
		done := doneByDefinition(b, s, c)
		if shortByDefinition(done) >= 0 {
			return i == commands // nothing follows a bad point
		}
		if i != lost {
			s = done
		}
		s = waitedByDefinition(s, c.Wait)
	}
	return false
}

// shortByTrying is the way to a short, found by trying all losses within some repetitions.
func shortByTrying(b api.CircuitBridge, l []api.CircuitCommand) (api.CircuitWay, api.Errno) {
	for n := range 4*len(l) + 4 {
		for lost := -1; lost < n; lost++ {
			if shortAfter(b, l, n, lost) {
				w := api.CircuitWay{Commands: n}
				if lost >= 0 {
					w.Lost = []int{lost}
				}
				return w, api.OK
			}
		}
	}
	return api.CircuitWay{}, api.ErrNone
}

// P1.2, P1.7
func TestProgramsByDefinition(t *testing.T) {
	programs(func(b api.CircuitBridge, l []api.CircuitCommand) {
		if t.Failed() {
			return
		}
		points, e := circuit.ReachedBy(b, l)
		want(t, "ReachedBy", points, e, reachedByDefinition(b, l), api.OK)
		w, e := circuit.WayToShort(b, l)
		v, f := shortByTrying(b, l)
		want(t, "WayToShort", w, e, v, f)
		i, g := circuit.CheckPoints(b, l, points)
		if accepted := g == api.OK; accepted != (e == api.ErrNone) {
			t.Errorf("CheckPoints of the reached points: %d, %d, but WayToShort: %d", i, g, e)
		}
		if b.Locked && e != api.ErrNone {
			t.Errorf("WayToShort of a locked bridge: %v", w)
		}
		if t.Failed() {
			t.Logf("of %+v, %s", b, circuit.FormatProgram(l))
		}
	})
}

// P1.2, example 1 and 2
func TestWayToShortOfExamples(t *testing.T) {
	p := program(t, example)
	w, e := circuit.WayToShort(oneLeg(), p)
	want(t, "with a loss", w, e, api.CircuitWay{Commands: 2, Lost: []int{1}}, api.OK)
	p[1].Wait = 1
	w, e = circuit.WayToShort(oneLeg(), p)
	want(t, "without a loss", w, e, api.CircuitWay{Commands: 2}, api.OK)
	locked := api.CircuitBridge{Legs: 1, Fall: 2, Locked: true}
	w, e = circuit.WayToShort(locked, p)
	want(t, "locked", w, e, api.CircuitWay{}, api.ErrNone)
	w, e = circuit.WayToShort(oneLeg(), program(t, "l 0 + 0;u 0 - 0;u 0 + 0"))
	want(t, "in the same tick", w, e, api.CircuitWay{Commands: 2}, api.OK)
	w, e = circuit.WayToShort(api.CircuitBridge{Legs: 1}, program(t, "u 0 + 0;u 0 - 0;l 0 + 0;l 0 - 0"))
	want(t, "switches that stop at once", w, e, api.CircuitWay{Commands: 2, Lost: []int{1}}, api.OK)
}

// P1.2: the smallest lost index, and a repetition
func TestWayToShortOfLosses(t *testing.T) {
	b := api.CircuitBridge{Legs: 1, Fall: 0}
	w, e := circuit.WayToShort(b, program(t, "u 0 + 0;u 0 - 0;u 0 - 0;l 0 + 0;l 0 - 0"))
	want(t, "two commands turn off", w, e, api.CircuitWay{Commands: 5, Lost: []int{4}}, api.OK)
	b.Fall = 3
	w, e = circuit.WayToShort(b, program(t, "u 0 + 0;u 0 - 0;l 0 - 0;l 0 + 0"))
	want(t, "no loss is needed", w, e, api.CircuitWay{Commands: 3}, api.OK)
	w, e = circuit.WayToShort(b, program(t, "u 0 - 2;u 0 - 1;u 0 + 0;u 0 - 3;u 0 - 2;l 0 + 0;l 0 - 3"))
	want(t, "a loss of the command before", w, e, api.CircuitWay{Commands: 5, Lost: []int{3}}, api.OK)
}

// P1.2, example 3
func TestReachedByOfExample(t *testing.T) {
	locked := api.CircuitBridge{Legs: 1, Fall: 2, Locked: true}
	points, e := circuit.ReachedBy(locked, program(t, example))
	want(t, "ReachedBy", points, e, []api.CircuitPoint{
		at(0, false, 0, 0), at(0, true, -1, 0), at(0, true, 0, -1), at(0, true, 0, 0),
		at(1, false, 0, -1), at(1, true, -1, 0), at(1, true, 0, -1), at(1, true, 0, 0),
		at(2, false, 0, 0), at(2, true, -1, 0), at(2, true, 0, -1), at(2, true, 0, 0),
		at(3, false, -1, 0), at(3, true, -1, 0), at(3, true, 0, -1), at(3, true, 0, 0),
	}, api.OK)
}

// P1.2: a bad point is reached, and nothing after it
func TestReachedByEndsAtBadPoints(t *testing.T) {
	points, e := circuit.ReachedBy(oneLeg(), program(t, "u 0 + 0;l 0 + 0"))
	want(t, "ReachedBy", points, e, []api.CircuitPoint{at(0, false, 0, 0), at(0, true, -1, 0), at(1, false, 0, -1), at(1, true, 0, 0)}, api.OK)
}

// P1.2, errors
func TestProgramErrors(t *testing.T) {
	for _, x := range []struct {
		b api.CircuitBridge
		l []api.CircuitCommand
		e api.Errno
	}{
		{api.CircuitBridge{Legs: 3}, nil, api.ErrRange},
		{oneLeg(), nil, api.ErrShape},
		{oneLeg(), make([]api.CircuitCommand, 13), api.ErrLarge},
		{oneLeg(), []api.CircuitCommand{{Leg: 1, Wait: 21}}, api.ErrMissing},
		{oneLeg(), []api.CircuitCommand{{}, {Wait: 21}}, api.ErrRange},
	} {
		points, e := circuit.ReachedBy(x.b, x.l)
		want(t, "ReachedBy", points, e, []api.CircuitPoint{}, x.e)
		w, e := circuit.WayToShort(x.b, x.l)
		want(t, "WayToShort", w, e, api.CircuitWay{}, x.e)
		i, e := circuit.CheckPoints(x.b, x.l, make([]api.CircuitPoint, api.MaxCircuitPoints+1))
		want(t, "CheckPoints", i, e, 0, x.e)
	}
}

// P1.2
func TestCheckPoints(t *testing.T) {
	b := oneLeg()
	p := program(t, "u 0 + 0")
	proof := []api.CircuitPoint{at(0, true, 0, -1), at(0, false, 0, 0), at(0, false, 0, -1), at(0, true, 0, 0)}
	for _, x := range []struct {
		what   string
		points []api.CircuitPoint
		index  int
		e      api.Errno
	}{
		{"a proof in any order", proof, 0, api.OK},
		{"a larger proof", append([]api.CircuitPoint{at(0, true, 0, 2)}, proof...), 0, api.OK},
		{"too many", make([]api.CircuitPoint, api.MaxCircuitPoints+1), 0, api.ErrLarge},
		{"as many as may be", make([]api.CircuitPoint, api.MaxCircuitPoints), 0, api.ErrShape},
		{"nothing", nil, 0, api.ErrGap},
		{"no such command", []api.CircuitPoint{proof[1], at(1, false, 9), at(-1, false)}, 1, api.ErrMissing},
		{"twice before a command below 0", []api.CircuitPoint{proof[1], proof[1], at(-1, false, 0, 0)}, 1, api.ErrDouble},
		{"a command below 0", []api.CircuitPoint{proof[1], at(-1, false, 0, 0)}, 1, api.ErrMissing},
		{"no state", []api.CircuitPoint{proof[1], proof[0], at(0, false, 0)}, 2, api.ErrShape},
		{"a number outside", []api.CircuitPoint{at(0, false, 0, 3), proof[1], proof[1]}, 0, api.ErrRange},
		{"twice", []api.CircuitPoint{proof[0], proof[2], proof[2], proof[2]}, 2, api.ErrDouble},
		{"without the first one", []api.CircuitPoint{at(0, false, -1, 0), proof[0]}, 0, api.ErrGap},
		{"a bad one", []api.CircuitPoint{proof[1], proof[2], proof[3], proof[0], at(0, false, -1, 0)}, 4, api.ErrBreak},
		{"a bad one before a gap", []api.CircuitPoint{at(0, false, 1, 0), proof[1]}, 0, api.ErrBreak},
		{"without a loss", []api.CircuitPoint{proof[2], proof[1]}, 0, api.ErrGap},
		{"without what is done", []api.CircuitPoint{proof[0], proof[3], proof[1]}, 2, api.ErrGap},
		{"without what is lost", []api.CircuitPoint{proof[0], proof[2], proof[1]}, 2, api.ErrGap},
	} {
		i, e := circuit.CheckPoints(b, p, x.points)
		want(t, x.what, i, e, x.index, x.e)
	}
}

// P1.2: a leg other than the command's makes a point bad, too; a short that ends with the command does not
func TestBadPoints(t *testing.T) {
	b := api.CircuitBridge{Legs: 2}
	p := program(t, "l 0 - 0")
	first := []api.CircuitPoint{at(0, false, 0, 0, 0, 0), at(0, true, 0, 0, 0, 0)}
	i, e := circuit.CheckPoints(b, p, append(first, at(0, true, 0, 0, -1, -1)))
	want(t, "another leg", i, e, 2, api.ErrBreak)
	i, e = circuit.CheckPoints(b, p, append(first, at(0, true, -1, -1, 0, 0), at(0, true, 0, -1, 0, 0)))
	want(t, "a short that ends", i, e, 0, api.OK)
}

// P1.7: each point that is left out of the reached ones is missed, unless the rest is a proof
func TestProofsAreClosed(t *testing.T) {
	locked := api.CircuitBridge{Legs: 1, Fall: 2, Locked: true}
	p := program(t, example)
	points, _ := circuit.ReachedBy(locked, p)
	for i := range points {
		_, e := circuit.CheckPoints(locked, p, slices.Concat(points[:i], points[i+1:]))
		want(t, "one point less", i, e, i, api.ErrGap)
	}
}

// R3
func TestPointsShareNoMemory(t *testing.T) {
	p := program(t, "u 0 + 0")
	points, _ := circuit.ReachedBy(oneLeg(), p)
	for i := range points {
		points[i].State.Switches = append(points[i].State.Switches[:1], 7)
	}
	again, e := circuit.ReachedBy(oneLeg(), p)
	want(t, "ReachedBy", again, e, reachedByDefinition(oneLeg(), p), api.OK)
	for _, x := range points {
		want(t, "a changed point", x.State.Switches[1], api.OK, 7, api.OK)
	}
}
