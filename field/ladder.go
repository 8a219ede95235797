// Package field is chapter 2: the field of a coil in a part, as a ladder of shells of steel. See shared/doc/02-field.md.
package field

import "martensite/api"

// shellFault is the error of the numbers of a shell.
func shellFault(s api.FieldShell) api.Errno {
	return firstOf(
		rangeError(1, api.MaxFieldConductance, s.Conductance),
		rangeError(1, api.MaxFieldReactance, s.Cold, s.Hot),
		errorIf(s.Hot > s.Cold, api.ErrOrder))
}

// ladderError is the error of a ladder.
func ladderError(x api.FieldLadder) api.Errno {
	_, e := CheckLadder(x)
	return e
}

// reactanceOf is the reactance before a shell by a drive.
func reactanceOf(x api.FieldLadder, d api.FieldDrive, shell int) int {
	if d.Hot[shell] {
		return d.Frequency * x.Shells[shell].Hot
	}
	return d.Frequency * x.Shells[shell].Cold
}

// CheckLadder finds the error of a ladder, and the index of the shell that has it.
func CheckLadder(x api.FieldLadder) (int, api.Errno) {
	e := firstOf(
		rangeError(1, api.MaxFieldTurns, x.Turns),
		errorIf(len(x.Shells) == 0, api.ErrShape),
		errorIf(len(x.Shells) > api.MaxFieldShells, api.ErrLarge))
	if e != api.OK {
		return 0, e
	}
	for i, s := range x.Shells {
		if e := shellFault(s); e != api.OK {
			return i, e
		}
	}
	return 0, api.OK
}

// CheckDrive finds the error of a drive of a ladder.
func CheckDrive(x api.FieldLadder, d api.FieldDrive) api.Errno {
	return firstOf(
		ladderError(x),
		rangeError(1, api.MaxFieldFrequency, d.Frequency),
		errorIf(len(d.Hot) != len(x.Shells), api.ErrShape))
}

// ReactancesOf are the reactances before all shells.
func ReactancesOf(x api.FieldLadder, d api.FieldDrive) ([]int, api.Errno) {
	if e := CheckDrive(x, d); e != api.OK {
		return nil, e
	}
	var l []int
	for k := range x.Shells {
		l = append(l, reactanceOf(x, d, k))
	}
	return l, api.OK
}

// HotAt is which shells are hot: those with at least the Curie temperature.
func HotAt(kelvins []int, curie int) ([]bool, api.Errno) {
	e := firstOf(
		errorIf(len(kelvins) > api.MaxFieldShells, api.ErrLarge),
		rangeError(1, api.MaxFieldKelvin, kelvins...),
		rangeError(1, api.MaxFieldKelvin, curie))
	if e != api.OK {
		return nil, e
	}
	var hot []bool
	for _, k := range kelvins {
		hot = append(hot, k >= curie)
	}
	return hot, api.OK
}
