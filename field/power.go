package field

import (
	"iter"
	"slices"

	"martensite/api"
)

// heated is the shells of a ladder, and the voltages of their nodes.
type heated struct {
	shells []api.FieldShell
	nodes  []api.Gauss
}

// powers yields the powers of the shells. Their sum is below 2^45, so that it times MaxFieldWatts is an int.
func (h heated) powers(yield func(int) bool) {
	for k, s := range h.shells {
		z := h.nodes[k]
		if !yield(s.Conductance * (z.Re*z.Re + z.Im*z.Im)) {
			return
		}
	}
}

// powersOf yields the powers of all shells by a drive.
func powersOf(x api.FieldLadder, d api.FieldDrive) iter.Seq[int] {
	return heated{x.Shells, voltagesOf(x, d)[1:]}.powers
}

// sumOf is the sum of all powers.
func sumOf(powers iter.Seq[int]) int {
	sum := 0
	for p := range powers {
		sum += p
	}
	return sum
}

// wattsOf are the watts of a total in shells with these powers.
func wattsOf(powers iter.Seq[int], total int) []int {
	sum := sumOf(powers)
	var watts []int
	together, given := 0, 0
	for p := range powers {
		together += p
		upTo := total * together / sum
		watts = append(watts, upTo-given)
		given = upTo
	}
	return watts
}

// depthOf is the depth for a percentage of powers.
func depthOf(powers iter.Seq[int], percent int) int {
	sum := sumOf(powers)
	depth, together := 0, 0
	for p := range powers {
		if 100*together >= percent*sum {
			break
		}
		together += p
		depth++
	}
	return depth
}

// PowersOf are the powers of all shells.
func PowersOf(x api.FieldLadder, d api.FieldDrive) ([]int, api.Errno) {
	if e := CheckDrive(x, d); e != api.OK {
		return nil, e
	}
	return slices.Collect(powersOf(x, d)), api.OK
}

// ShareOf is the share of a shell.
func ShareOf(x api.FieldLadder, d api.FieldDrive, shell int) (api.Frac, api.Errno) {
	if e := firstOf(CheckDrive(x, d), shellError(x, shell)); e != api.OK {
		return api.Frac{}, e
	}
	powers := slices.Collect(powersOf(x, d))
	sum := sumOf(slices.Values(powers))
	n := divisor(powers[shell], sum)
	share := api.Frac{Num: powers[shell] / n, Den: sum / n}
	// A share is at most 1, so the denominator is the larger part.
	if share.Den > api.MaxPart {
		return api.Frac{}, api.ErrLarge
	}
	return share, api.OK
}

// WattsIn are the watts of a total in all shells.
func WattsIn(x api.FieldLadder, d api.FieldDrive, total int) ([]int, api.Errno) {
	if e := firstOf(CheckDrive(x, d), totalError(total)); e != api.OK {
		return nil, e
	}
	return wattsOf(powersOf(x, d), total), api.OK
}

// DepthFor is the depth for a percentage.
func DepthFor(x api.FieldLadder, d api.FieldDrive, percent int) (int, api.Errno) {
	if e := firstOf(CheckDrive(x, d), percentError(percent)); e != api.OK {
		return 0, e
	}
	return depthOf(powersOf(x, d), percent), api.OK
}

// FrequencyFor is the minimum frequency at which the depth for the percentage is small enough.
func FrequencyFor(x api.FieldLadder, hot []bool, w api.FieldWish) (int, api.Errno) {
	e := firstOf(
		ladderError(x),
		errorIf(len(hot) != len(x.Shells), api.ErrShape),
		percentError(w.Percent),
		rangeError(1, len(x.Shells), w.Depth))
	if e != api.OK {
		return 0, e
	}
	for f := 1; f <= api.MaxFieldFrequency; f++ {
		d := api.FieldDrive{Frequency: f, Hot: hot}
		if depthOf(powersOf(x, d), w.Percent) <= w.Depth {
			return f, api.OK
		}
	}
	return 0, api.ErrNone
}
