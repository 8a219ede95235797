package field

import (
	"slices"

	"martensite/api"
)

// plus is the sum of a whole complex number and a multiple of another one.
func plus(z api.Gauss, n int, other api.Gauss) api.Gauss {
	return api.Gauss{Re: z.Re + n*other.Re, Im: z.Im + n*other.Im}
}

// before is the voltage before a reactance, for the voltage after it and the current through it.
func before(after api.Gauss, reactance int, current api.Gauss) api.Gauss {
	return plus(after, reactance, api.Gauss{Re: -current.Im, Im: current.Re})
}

// voltagesOf are the voltages of the input and of all nodes. The largest parts of valid ladders are below MaxFieldPart.
func voltagesOf(x api.FieldLadder, d api.FieldDrive) []api.Gauss {
	last, current := api.Gauss{Re: 1}, api.Gauss{}
	l := []api.Gauss{last}
	for k, s := range slices.Backward(x.Shells) {
		current = plus(current, s.Conductance, last)
		last = before(last, reactanceOf(x, d, k), current)
		l = append(l, last)
	}
	slices.Reverse(l)
	return l
}

// currentsOf are the currents to all nodes, for the voltages of the input and of all nodes.
func currentsOf(x api.FieldLadder, voltages []api.Gauss) []api.Gauss {
	nodes := voltages[1:]
	l := make([]api.Gauss, len(nodes))
	current := api.Gauss{}
	for k, s := range slices.Backward(x.Shells) {
		current = plus(current, s.Conductance, nodes[k])
		l[k] = current
	}
	return l
}

// voltagesError is the error of voltages that are to be checked, without their proof.
func voltagesError(x api.FieldLadder, l []api.Gauss) api.Errno {
	if len(l) != len(x.Shells)+1 {
		return api.ErrShape
	}
	for _, z := range l {
		if e := rangeError(-api.MaxFieldPart, api.MaxFieldPart, z.Re, z.Im); e != api.OK {
			return e
		}
	}
	return errorIf(l[len(l)-1] != api.Gauss{Re: 1}, api.ErrForm)
}

// VoltagesOf are the voltages of the input and of all nodes, in relation to the last one.
func VoltagesOf(x api.FieldLadder, d api.FieldDrive) ([]api.Gauss, api.Errno) {
	if e := CheckDrive(x, d); e != api.OK {
		return nil, e
	}
	return voltagesOf(x, d), api.OK
}

// CurrentsOf are the currents to all nodes.
func CurrentsOf(x api.FieldLadder, d api.FieldDrive) ([]api.Gauss, api.Errno) {
	if e := CheckDrive(x, d); e != api.OK {
		return nil, e
	}
	return currentsOf(x, voltagesOf(x, d)), api.OK
}

// CheckVoltages finds the error of voltages, and the index of the first reactance whose equation they break.
func CheckVoltages(x api.FieldLadder, d api.FieldDrive, l []api.Gauss) (int, api.Errno) {
	if e := CheckDrive(x, d); e != api.OK {
		return 0, e
	}
	if e := voltagesError(x, l); e != api.OK {
		return 0, e
	}
	for k, current := range currentsOf(x, l) {
		if l[k] != before(l[k+1], reactanceOf(x, d, k), current) {
			return k, api.ErrProof
		}
	}
	return 0, api.OK
}
