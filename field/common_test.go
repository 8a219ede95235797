package field_test

import (
	"fmt"
	"math/rand"
	"testing"

	"martensite/api"
	"martensite/field"
)

// same compares two values as they are printed, so that nil and empty slices are equal.
func same(a, b any) bool { return fmt.Sprintf("%+v", a) == fmt.Sprintf("%+v", b) }

// want compares a result and an error with those that are expected.
func want(t *testing.T, what string, got any, e api.Errno, value any, f api.Errno) {
	t.Helper()
	if !same(got, value) || e != f {
		t.Errorf("%s: %+v, %d, want %+v, %d", what, got, e, value, f)
	}
}

// ladder is a ladder of two turns.
func ladder(shells ...api.FieldShell) api.FieldLadder {
	return api.FieldLadder{Turns: 2, Shells: shells}
}

// shell is a shell.
func shell(conductance, cold, hot int) api.FieldShell {
	return api.FieldShell{Conductance: conductance, Cold: cold, Hot: hot}
}

// drive is a drive.
func drive(frequency int, hot ...bool) api.FieldDrive {
	return api.FieldDrive{Frequency: frequency, Hot: hot}
}

// cold is a drive of a ladder, of which nothing is hot.
func cold(x api.FieldLadder, frequency int) api.FieldDrive {
	return api.FieldDrive{Frequency: frequency, Hot: make([]bool, len(x.Shells))}
}

// span is a range.
func span(lo, hi int) api.Range { return api.Range{Lo: lo, Hi: hi} }

// gauss is a whole complex number.
func gauss(re, im int) api.Gauss { return api.Gauss{Re: re, Im: im} }

// example is the ladder of the document's examples.
func example() api.FieldLadder { return ladder(shell(1, 2, 1), shell(1, 1, 1)) }

// largest is the ladder with the largest numbers.
func largest() api.FieldLadder {
	most := shell(api.MaxFieldConductance, api.MaxFieldReactance, api.MaxFieldReactance)
	return api.FieldLadder{Turns: api.MaxFieldTurns, Shells: []api.FieldShell{most, most, most, most}}
}

// allShells are all valid shells.
func allShells() []api.FieldShell {
	var all []api.FieldShell
	for conductance := 1; conductance <= api.MaxFieldConductance; conductance++ {
		for cold := 1; cold <= api.MaxFieldReactance; cold++ {
			for hot := 1; hot <= cold; hot++ {
				all = append(all, shell(conductance, cold, hot))
			}
		}
	}
	return all
}

// hots are all ways in which so many shells are hot.
func hots(shells int) [][]bool {
	all := [][]bool{nil}
	for range shells {
		var longer [][]bool
		for _, l := range all {
			longer = append(longer, append(append([]bool{}, l...), false), append(append([]bool{}, l...), true))
		}
		all = longer
	}
	return all
}

// someLadder is a valid ladder with so many shells.
func someLadder(random *rand.Rand, shells int) api.FieldLadder {
	x := api.FieldLadder{Turns: 1 + random.Intn(api.MaxFieldTurns)}
	all := allShells()
	for range shells {
		x.Shells = append(x.Shells, all[random.Intn(len(all))])
	}
	return x
}

// someDrive is a valid drive of a ladder.
func someDrive(random *rand.Rand, x api.FieldLadder) api.FieldDrive {
	all := hots(len(x.Shells))
	return api.FieldDrive{Frequency: 1 + random.Intn(api.MaxFieldFrequency), Hot: all[random.Intn(len(all))]}
}

// someRanges are a range from lo to hi for each shell.
func someRanges(random *rand.Rand, shells, lo, hi int) []api.Range {
	var l []api.Range
	for range shells {
		a, b := lo+random.Intn(hi-lo+1), lo+random.Intn(hi-lo+1)
		l = append(l, span(min(a, b), max(a, b)))
	}
	return l
}

// ladders does something with ladders and drives: all of one shell, many of more, and the one with the largest numbers.
func ladders(do func(x api.FieldLadder, d api.FieldDrive)) {
	for _, s := range allShells() {
		for f := 1; f <= api.MaxFieldFrequency; f++ {
			do(ladder(s), drive(f, false))
			do(ladder(s), drive(f, true))
		}
	}
	random := rand.New(rand.NewSource(1))
	for i := range 6000 {
		x := someLadder(random, 2+i%(api.MaxFieldShells-1))
		do(x, someDrive(random, x))
	}
	do(largest(), cold(largest(), api.MaxFieldFrequency))
}

// bad is a ladder with an error, and its index.
type bad struct {
	x     api.FieldLadder
	index int
	e     api.Errno
}

// badLadders are ladders with errors; where there are several, the one that is listed first.
func badLadders() []bad {
	good := shell(1, 1, 1)
	turns := func(n int, l ...api.FieldShell) api.FieldLadder { return api.FieldLadder{Turns: n, Shells: l} }
	return []bad{
		{turns(0, good), 0, api.ErrRange},
		{turns(api.MaxFieldTurns+1, good), 0, api.ErrRange},
		{turns(-1, good), 0, api.ErrRange},
		{turns(0), 0, api.ErrRange},
		{turns(0, good, good, good, good, good), 0, api.ErrRange},
		{turns(0, good, shell(1, 1, 2)), 0, api.ErrRange},
		{turns(1), 0, api.ErrShape},
		{api.FieldLadder{Turns: api.MaxFieldTurns, Shells: []api.FieldShell{}}, 0, api.ErrShape},
		{turns(1, good, good, good, good, good), 0, api.ErrLarge},
		{turns(1, good, shell(0, 1, 1), good, good, good), 0, api.ErrLarge},
		{turns(1, shell(0, 1, 1)), 0, api.ErrRange},
		{turns(1, shell(-1, 1, 1)), 0, api.ErrRange},
		{turns(1, good, shell(5, 1, 1)), 1, api.ErrRange},
		{turns(1, good, good, shell(1, 0, 0)), 2, api.ErrRange},
		{turns(1, good, good, good, shell(1, 5, 1)), 3, api.ErrRange},
		{turns(1, good, shell(1, 1, 0)), 1, api.ErrRange},
		{turns(1, good, shell(1, 4, -3)), 1, api.ErrRange},
		{turns(1, good, shell(1, 5, 5)), 1, api.ErrRange},
		{turns(1, good, shell(1, 4, 5)), 1, api.ErrRange},
		{turns(1, good, shell(5, 1, 2)), 1, api.ErrRange},
		{turns(1, good, shell(1, 1, 2), shell(0, 1, 1)), 1, api.ErrOrder},
		{turns(1, shell(4, 3, 4)), 0, api.ErrOrder},
		{turns(1, good, good, shell(1, 1, 4), shell(1, 1, 2)), 2, api.ErrOrder},
	}
}

// badDrive is a drive with an error.
type badDrive struct {
	d api.FieldDrive
	e api.Errno
}

// badDrives are drives with errors for the ladder of the examples.
func badDrives() []badDrive {
	return []badDrive{
		{drive(0, false, false), api.ErrRange},
		{drive(-1, false, false), api.ErrRange},
		{drive(api.MaxFieldFrequency+1, false, false), api.ErrRange},
		{drive(0), api.ErrRange},
		{drive(9, true, true, true), api.ErrRange},
		{drive(1), api.ErrShape},
		{drive(8, false), api.ErrShape},
		{drive(1, false, true, false), api.ErrShape},
	}
}

// wantError asks all functions of a ladder and a drive that have an error, with errors in all other arguments, too.
func wantError(t *testing.T, x api.FieldLadder, d api.FieldDrive, wanted api.Errno) {
	t.Helper()
	numbers, gausses, none := []int{}, []api.Gauss{}, api.FieldRatio{}
	want(t, "CheckDrive", nil, field.CheckDrive(x, d), nil, wanted)
	l, e := field.ReactancesOf(x, d)
	want(t, "ReactancesOf", l, e, numbers, wanted)
	z, e := field.VoltagesOf(x, d)
	want(t, "VoltagesOf", z, e, gausses, wanted)
	z, e = field.CurrentsOf(x, d)
	want(t, "CurrentsOf", z, e, gausses, wanted)
	i, e := field.CheckVoltages(x, d, nil)
	want(t, "CheckVoltages", i, e, 0, wanted)
	l, e = field.PowersOf(x, d)
	want(t, "PowersOf", l, e, numbers, wanted)
	f, e := field.ShareOf(x, d, -1)
	want(t, "ShareOf", f, e, api.Frac{}, wanted)
	l, e = field.WattsIn(x, d, -1)
	want(t, "WattsIn", l, e, numbers, wanted)
	i, e = field.DepthFor(x, d, 0)
	want(t, "DepthFor", i, e, 0, wanted)
	r, e := field.ImpedanceOf(x, d)
	want(t, "ImpedanceOf", r, e, none, wanted)
	r, e = field.TransferOf(x, d, [2]int{-1, 9})
	want(t, "TransferOf", r, e, none, wanted)
	wantPairError(t, x, api.FieldPair{First: d}, wanted)
}

// wantPairError asks the functions of a pair of drives, with errors in all other arguments, too.
func wantPairError(t *testing.T, x api.FieldLadder, p api.FieldPair, wanted api.Errno) {
	t.Helper()
	l, e := field.TwoWatts(x, p, [2]int{-1, -1})
	want(t, "TwoWatts", l, e, []int{}, wanted)
	n, e := field.SplitFor(x, p, api.FieldShape{Total: -1})
	want(t, "SplitFor", n, e, 0, wanted)
}
