package field

import (
	"iter"

	"martensite/api"
)

// pairError is the error of a ladder and of both drives of a pair.
func pairError(x api.FieldLadder, p api.FieldPair) api.Errno {
	return firstOf(CheckDrive(x, p.First), CheckDrive(x, p.Second))
}

// twoWatts are the watts of a pair of drives with these powers.
func twoWatts(powers [2]iter.Seq[int], watts [2]int) []int {
	sum := wattsOf(powers[0], watts[0])
	for k, n := range wattsOf(powers[1], watts[1]) {
		sum[k] += n
	}
	return sum
}

// bothPowers yield the powers of all shells by both drives of a pair.
func bothPowers(x api.FieldLadder, p api.FieldPair) [2]iter.Seq[int] {
	return [2]iter.Seq[int]{powersOf(x, p.First), powersOf(x, p.Second)}
}

// shapeError is the error of a shape of a ladder.
func shapeError(x api.FieldLadder, w api.FieldShape) api.Errno {
	if e := firstOf(totalError(w.Total), errorIf(len(w.Watts) != len(x.Shells), api.ErrShape)); e != api.OK {
		return e
	}
	for _, r := range w.Watts {
		if e := endsError(0, api.MaxFieldWatts, r); e != api.OK {
			return e
		}
	}
	return api.OK
}

// allWithin is whether all watts lie in their ranges.
func allWithin(ranges []api.Range, watts []int) bool {
	for k, r := range ranges {
		if watts[k] < r.Lo || watts[k] > r.Hi {
			return false
		}
	}
	return true
}

// TwoWatts are the watts of a pair in all shells.
func TwoWatts(x api.FieldLadder, p api.FieldPair, watts [2]int) ([]int, api.Errno) {
	if e := firstOf(pairError(x, p), totalError(watts[:]...)); e != api.OK {
		return nil, e
	}
	return twoWatts(bothPowers(x, p), watts), api.OK
}

// SplitFor is the minimum number of watts of the first drive with which the watts of the pair have the shape.
func SplitFor(x api.FieldLadder, p api.FieldPair, w api.FieldShape) (int, api.Errno) {
	if e := firstOf(pairError(x, p), shapeError(x, w)); e != api.OK {
		return 0, e
	}
	powers := bothPowers(x, p)
	for n := range w.Total + 1 {
		if allWithin(w.Watts, twoWatts(powers, [2]int{n, w.Total - n})) {
			return n, api.OK
		}
	}
	return 0, api.ErrNone
}
