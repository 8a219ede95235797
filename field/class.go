package field

import (
	"slices"

	"martensite/api"
)

// membersOf are the ladders of a class.
func membersOf(c api.FieldClass) []api.FieldLadder {
	all := []api.FieldLadder{{Turns: c.Ladder.Turns}}
	for k, r := range c.Conductances {
		shell := c.Ladder.Shells[k]
		var longer []api.FieldLadder
		for _, x := range all {
			for n := r.Lo; n <= r.Hi; n++ {
				shell.Conductance = n
				longer = append(longer, api.FieldLadder{Turns: x.Turns, Shells: append(slices.Clone(x.Shells), shell)})
			}
		}
		all = longer
	}
	return all
}

// CheckClass finds the error of a class, and the index of the shell that has it.
func CheckClass(c api.FieldClass) (int, api.Errno) {
	if i, e := CheckLadder(c.Ladder); e != api.OK {
		return i, e
	}
	if len(c.Conductances) != len(c.Ladder.Shells) {
		return 0, api.ErrShape
	}
	for i, r := range c.Conductances {
		if e := endsError(1, api.MaxFieldConductance, r); e != api.OK {
			return i, e
		}
	}
	return 0, api.OK
}

// RangesOf are the ranges of the watts in all shells over all ladders of a class.
func RangesOf(c api.FieldClass, d api.FieldDrive, total int) ([]api.Range, api.Errno) {
	_, wrong := CheckClass(c)
	if e := firstOf(wrong, CheckDrive(c.Ladder, d), totalError(total)); e != api.OK {
		return nil, e
	}
	// No watts are below 0 or above the total.
	ranges := slices.Repeat([]api.Range{{Lo: total, Hi: 0}}, len(c.Conductances))
	for _, x := range membersOf(c) {
		for k, n := range wattsOf(powersOf(x, d), total) {
			ranges[k] = api.Range{Lo: min(ranges[k].Lo, n), Hi: max(ranges[k].Hi, n)}
		}
	}
	return ranges, api.OK
}
