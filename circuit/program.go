package circuit

import (
	"cmp"
	"iter"
	"slices"

	"martensite/api"
)

// point is a point of a program whose state is comparable.
type point struct {
	next int
	lost bool
	at   switches
}

// program is a program that was checked, of its bridge.
type program struct {
	bridge
	commands []api.CircuitCommand
}

// programOf is the program of a bridge, or its error.
func programOf(b api.CircuitBridge, l []api.CircuitCommand) (program, api.Errno) {
	if _, e := CheckProgram(b, l); e != api.OK {
		return program{}, e
	}
	return program{bridge{b}, l}, api.OK
}

// bad is whether the command of a point leaves a leg shorted.
func (p program) bad(x point) bool {
	_, short := shortIn(p.done(x.at, p.commands[x.next]))
	return short
}

// after yields the points after one. The point with a lost command comes first: a search then finds all that was lost earlier before what was lost later.
func (p program) after(x point) iter.Seq[point] {
	return func(yield func(point) bool) {
		if p.bad(x) {
			return
		}
		c := p.commands[x.next]
		next := (x.next + 1) % len(p.commands)
		if !x.lost && !yield(point{next, true, waited(x.at, c.Wait)}) {
			return
		}
		yield(point{next, x.lost, waited(p.done(x.at, c), c.Wait)})
	}
}

// comparePoints orders points by the index, then by what is lost, then by the state.
func comparePoints(x, y point) int {
	return cmp.Or(
		cmp.Compare(x.next, y.next),
		compareLost(x.lost, y.lost),
		slices.Compare(x.at[:], y.at[:]))
}

// compareLost puts nothing lost before something lost.
func compareLost(x, y bool) int {
	switch {
	case x == y:
		return 0
	case y:
		return -1
	}
	return 1
}

// given is the point as it is given out.
func (p program) given(x point) api.CircuitPoint {
	return api.CircuitPoint{Next: x.next, State: p.state(x.at), Lost: x.lost}
}

// pointOf is the comparable form of a point.
func pointOf(x api.CircuitPoint) point {
	return point{x.Next, x.Lost, switchesOf(x.State)}
}

// pointError is the error of a point.
func (p program) pointError(x api.CircuitPoint) api.Errno {
	_, wrong := stateError(p.CircuitBridge, x.State)
	return firstOf(errorIf(x.Next < 0 || x.Next >= len(p.commands), api.ErrMissing), wrong)
}

// wayOf is how the commands between points were.
func wayOf(points []point) api.CircuitWay {
	w := api.CircuitWay{Commands: len(points) - 1}
	for i := range w.Commands {
		if points[i+1].lost && !points[i].lost {
			w.Lost = append(w.Lost, i)
		}
	}
	return w
}

// compareWays orders ways by the commands, then by what was lost.
func compareWays(v, w api.CircuitWay) int {
	return cmp.Or(cmp.Compare(v.Commands, w.Commands), slices.Compare(v.Lost, w.Lost))
}

// ReachedBy are the reached points of a program.
func ReachedBy(b api.CircuitBridge, l []api.CircuitCommand) ([]api.CircuitPoint, api.Errno) {
	p, e := programOf(b, l)
	if e != api.OK {
		return nil, e
	}
	var points []api.CircuitPoint
	for _, x := range inOrder(reached(point{}, p.after), comparePoints) {
		points = append(points, p.given(x))
	}
	return points, api.OK
}

// WayToShort is the way to a bad point with the fewest commands.
func WayToShort(b api.CircuitBridge, l []api.CircuitCommand) (api.CircuitWay, api.Errno) {
	p, e := programOf(b, l)
	if e != api.OK {
		return api.CircuitWay{}, e
	}
	var ways []api.CircuitWay
	for _, points := range waysTo(reached(point{}, p.after), p.bad) {
		ways = append(ways, wayOf(points))
	}
	if len(ways) == 0 {
		return api.CircuitWay{}, api.ErrNone
	}
	return slices.MinFunc(ways, compareWays), api.OK
}

// CheckPoints accepts points that prove that no leg is ever shorted; otherwise it finds the error and the index of the point that has it.
func CheckPoints(b api.CircuitBridge, l []api.CircuitCommand, points []api.CircuitPoint) (int, api.Errno) {
	p, wrong := programOf(b, l)
	if e := firstOf(wrong, errorIf(len(points) > api.MaxCircuitPoints, api.ErrLarge)); e != api.OK {
		return 0, e
	}
	seen := map[point]bool{}
	i, e := firstError(points, func(x api.CircuitPoint) api.Errno {
		return firstOf(p.pointError(x), doubleError(seen, pointOf(x)))
	})
	if e != api.OK {
		return i, e
	}
	var items []point
	for _, x := range points {
		items = append(items, pointOf(x))
	}
	return proofError(items, point{}, p.bad, p.after)
}
