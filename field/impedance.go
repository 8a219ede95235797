package field

import "martensite/api"

// times is the product of whole complex numbers.
func times(a, b api.Gauss) api.Gauss {
	return api.Gauss{Re: a.Re*b.Re - a.Im*b.Im, Im: a.Re*b.Im + a.Im*b.Re}
}

// divisor is the greatest common divisor of numbers, not all of them 0.
func divisor(numbers ...int) int {
	d := 0
	for _, n := range numbers {
		for n != 0 {
			d, n = n, d%n
		}
	}
	return max(d, -d)
}

// reduced is a quotient in reduced form. No quotient of a ladder is 0, because every reactance and conductance is above 0.
func reduced(num, den api.Gauss) api.FieldRatio {
	n := divisor(num.Re, num.Im, den.Re, den.Im)
	if den.Re < 0 || den.Re == 0 && den.Im < 0 {
		n = -n
	}
	return api.FieldRatio{
		Num: api.Gauss{Re: num.Re / n, Im: num.Im / n},
		Den: api.Gauss{Re: den.Re / n, Im: den.Im / n}}
}

// groundedAt is the voltage of a node from which 1 flows out at the input, which has the voltage 0, and nothing flows inwards.
func groundedAt(x api.FieldLadder, d api.FieldDrive, node int) api.Gauss {
	voltage, current := api.Gauss{}, api.Gauss{Re: 1}
	for k := range node + 1 {
		voltage = before(voltage, reactanceOf(x, d, k), current)
		current = plus(current, x.Shells[k].Conductance, voltage)
	}
	return voltage
}

// ImpedanceOf is the impedance at the input.
func ImpedanceOf(x api.FieldLadder, d api.FieldDrive) (api.FieldRatio, api.Errno) {
	if e := CheckDrive(x, d); e != api.OK {
		return api.FieldRatio{}, e
	}
	voltages := voltagesOf(x, d)
	num := plus(api.Gauss{}, x.Turns*x.Turns, voltages[0])
	return reduced(num, currentsOf(x, voltages)[0]), api.OK
}

// TransferOf is the transfer between two nodes.
func TransferOf(x api.FieldLadder, d api.FieldDrive, pair [2]int) (api.FieldRatio, api.Errno) {
	if e := firstOf(CheckDrive(x, d), shellError(x, pair[:]...)); e != api.OK {
		return api.FieldRatio{}, e
	}
	// From the fed node outwards the voltages are in relation as those of groundedAt, inwards as those of voltagesOf. Scaled so that both meet at that node they draw a current from it that is the input's voltage of voltagesOf, wherever it lies; and it does not matter which of the two nodes is the fed one.
	outer, inner := min(pair[0], pair[1]), max(pair[0], pair[1])
	voltages := voltagesOf(x, d)
	return reduced(times(groundedAt(x, d, outer), voltages[inner+1]), voltages[0]), api.OK
}
