package circuit

import (
	"cmp"
	"iter"
	"slices"

	"martensite/api"
)

// loop is a loop that was checked.
type loop struct{ api.CircuitLoop }

// out is whether the frequency of a follow is not in the range.
func (x loop) out(f api.CircuitFollow) bool { return !within(x.Frequencies, f.Frequency) }

// step is the frequency after one with an inductance.
func (x loop) step(frequency, inductance int) int {
	off := frequency*frequency*inductance - x.Elastance
	switch {
	case off > x.Band:
		return frequency - 1
	case off < -x.Band:
		return frequency + 1
	}
	return frequency
}

// after yields the follows after one, ascending by the inductance; after one that is out nothing follows.
func (x loop) after(f api.CircuitFollow) iter.Seq[api.CircuitFollow] {
	return func(yield func(api.CircuitFollow) bool) {
		if x.out(f) {
			return
		}
		near := api.Range{
			Lo: max(x.Inductances.Lo, f.Inductance-x.Drift),
			Hi: min(x.Inductances.Hi, f.Inductance+x.Drift)}
		for l := range numbersOf(near) {
			if !yield(api.CircuitFollow{Frequency: x.step(f.Frequency, l), Inductance: l}) {
				return
			}
		}
	}
}

// ways yields the follows after one in their order, so that a search finds the lexicographically first ways.
func (x loop) ways(f api.CircuitFollow) iter.Seq[api.CircuitFollow] {
	return slices.Values(slices.SortedFunc(x.after(f), compareFollows))
}

// compareFollows orders follows by frequencies and then by inductances.
func compareFollows(f, g api.CircuitFollow) int {
	return cmp.Or(cmp.Compare(f.Frequency, g.Frequency), cmp.Compare(f.Inductance, g.Inductance))
}

// compareFollowed orders ways by their lengths and then by their follows.
func compareFollowed(v, w []api.CircuitFollow) int {
	return cmp.Or(cmp.Compare(len(v), len(w)), slices.CompareFunc(v, w, compareFollows))
}

// placeError is ErrMissing if an inductance is not in the range.
func (x loop) placeError(f api.CircuitFollow) api.Errno {
	return errorIf(!within(x.Inductances, f.Inductance), api.ErrMissing)
}

// CheckLoop finds the error of a loop.
func CheckLoop(x api.CircuitLoop) api.Errno {
	return firstOf(
		frequencyError(x.Frequencies.Lo, x.Frequencies.Hi),
		rangeError(0, api.MaxCircuitInductance, x.Inductances.Lo, x.Inductances.Hi, x.Drift),
		rangeError(0, api.MaxCircuitElastance, x.Elastance, x.Band),
		orderError(x.Frequencies, x.Inductances),
		errorIf(loop{x}.out(x.Start), api.ErrMissing),
		loop{x}.placeError(x.Start))
}

// Followed are the follows after one.
func Followed(x api.CircuitLoop, f api.CircuitFollow) ([]api.CircuitFollow, api.Errno) {
	y := loop{x}
	if e := firstOf(CheckLoop(x), errorIf(y.out(f), api.ErrMissing), y.placeError(f)); e != api.OK {
		return nil, e
	}
	return slices.Collect(y.after(f)), api.OK
}

// ReachedIn are the reached follows of a loop.
func ReachedIn(x api.CircuitLoop) ([]api.CircuitFollow, api.Errno) {
	if e := CheckLoop(x); e != api.OK {
		return nil, e
	}
	return inOrder(reached(x.Start, loop{x}.after), compareFollows), api.OK
}

// WayOut is the shortest way from the start of a loop to a follow that is out.
func WayOut(x api.CircuitLoop) ([]api.CircuitFollow, api.Errno) {
	if e := CheckLoop(x); e != api.OK {
		return nil, e
	}
	ways := waysTo(reached(x.Start, loop{x}.ways), loop{x}.out)
	if len(ways) == 0 {
		return nil, api.ErrNone
	}
	return slices.MinFunc(ways, compareFollowed), api.OK
}

// CheckFollows accepts follows that prove that no drift leads out; otherwise it finds the error and the index of the follow that has it.
func CheckFollows(x api.CircuitLoop, l []api.CircuitFollow) (int, api.Errno) {
	if e := firstOf(CheckLoop(x), errorIf(len(l) > api.MaxCircuitFollows, api.ErrLarge)); e != api.OK {
		return 0, e
	}
	y, seen := loop{x}, map[api.CircuitFollow]bool{}
	i, e := firstError(l, func(f api.CircuitFollow) api.Errno {
		return firstOf(errorIf(y.out(f), api.ErrBreak), y.placeError(f), doubleError(seen, f))
	})
	if e != api.OK {
		return i, e
	}
	return proofError(l, x.Start, y.out, y.after)
}
