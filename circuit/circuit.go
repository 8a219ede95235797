// Package circuit is chapter 1: bridges without shorts, resonant circuits as phasors, and loops that keep their limits. See shared/doc/01-circuit.md.
package circuit

import "martensite/api"

// phasor is a voltage and a current. Their parts are whole, and products of two of them are below 2^53, so floats hold them exactly.
type phasor struct{ voltage, current complex128 }

// times is a phasor that is multiplied.
func (x phasor) times(n complex128) phasor { return phasor{n * x.voltage, n * x.current} }

// power is the voltage times the conjugate of the current.
func (x phasor) power() complex128 {
	return x.voltage * complex(real(x.current), -imag(x.current))
}

// gaussOf is the whole complex number of a complex one.
func gaussOf(z complex128) api.Gauss { return api.Gauss{Re: int(real(z)), Im: int(imag(z))} }

// elementOf is the element of a part at a frequency.
func elementOf(p api.CircuitPart, frequency int) complex128 {
	f := float64(frequency)
	return complex(f*float64(p.Resistance), f*f*float64(p.Inductance)-float64(p.Elastance))
}

// phasorsAt are the phasors of a circuit, from the load to the source.
func phasorsAt(c api.CircuitLadder, frequency int) []phasor {
	f := complex(float64(frequency), 0)
	last := phasor{elementOf(c.Load, frequency), f}
	l := []phasor{last}
	for _, p := range c.Parts {
		e, scale := elementOf(p, frequency), f
		next := phasor{f*last.voltage + e*last.current, f * last.current}
		if p.Shunt {
			scale = e
			next = phasor{e * last.voltage, e*last.current + f*last.voltage}
		}
		for i := range l {
			l[i] = l[i].times(scale)
		}
		l = append(l, next)
		last = next
	}
	return l
}

// sourceAt is the phasor at the source.
func sourceAt(c api.CircuitLadder, frequency int) phasor {
	l := phasorsAt(c, frequency)
	return l[len(l)-1]
}

// softAt is whether switching is soft.
func softAt(c api.CircuitLadder, frequency int) bool {
	return imag(sourceAt(c, frequency).power()) > 0
}

// reduced is a quotient whose numbers have no common divisor.
func reduced(num api.Gauss, den int) api.CircuitRatio {
	d := divisor(divisor(den, num.Re), num.Im)
	return api.CircuitRatio{Num: api.Gauss{Re: num.Re / d, Im: num.Im / d}, Den: den / d}
}

// divisor is the greatest common divisor of a number above 0 and another one.
func divisor(a, b int) int {
	for b != 0 {
		a, b = b, a%b
	}
	return max(a, -a)
}

// partError is the error of a part.
func partError(p api.CircuitPart) api.Errno {
	return firstOf(
		rangeError(0, api.MaxCircuitResistance, p.Resistance),
		rangeError(0, api.MaxCircuitInductance, p.Inductance),
		rangeError(0, api.MaxCircuitElastance, p.Elastance))
}

// frequencyError is the error of frequencies.
func frequencyError(frequencies ...int) api.Errno {
	return rangeError(1, api.MaxCircuitFrequency, frequencies...)
}

// circuitError is the error of a circuit at a frequency.
func circuitError(c api.CircuitLadder, frequency int) api.Errno {
	_, wrong := CheckCircuit(c)
	return firstOf(wrong, frequencyError(frequency))
}

// boxError is the error of a box.
func boxError(b api.CircuitBox) api.Errno {
	return firstOf(
		rangeError(0, api.MaxCircuitResistance, b.Resistances.Lo, b.Resistances.Hi), orderError(b.Resistances),
		rangeError(0, api.MaxCircuitInductance, b.Inductances.Lo, b.Inductances.Hi), orderError(b.Inductances),
		frequencyError(b.Frequencies.Lo, b.Frequencies.Hi), orderError(b.Frequencies))
}

// partsOf are the load and the parts of a circuit.
func partsOf(c api.CircuitLadder) []api.CircuitPart {
	return append([]api.CircuitPart{c.Load}, c.Parts...)
}

// CheckCircuit finds the error of a circuit, and the index of the part that has it (the load is 0).
func CheckCircuit(c api.CircuitLadder) (int, api.Errno) {
	e := firstOf(
		errorIf(len(c.Parts) > api.MaxCircuitParts, api.ErrLarge),
		errorIf(c.Load.Shunt, api.ErrForm))
	if e != api.OK {
		return 0, e
	}
	return firstError(partsOf(c), partError)
}

// PhasorsAt are the phasors of a circuit, from the load to the source.
func PhasorsAt(c api.CircuitLadder, frequency int) ([]api.CircuitPhasor, api.Errno) {
	if e := circuitError(c, frequency); e != api.OK {
		return nil, e
	}
	var l []api.CircuitPhasor
	for _, x := range phasorsAt(c, frequency) {
		l = append(l, api.CircuitPhasor{Voltage: gaussOf(x.voltage), Current: gaussOf(x.current)})
	}
	return l, api.OK
}

// ImpedanceAt is the impedance of a circuit at the source.
func ImpedanceAt(c api.CircuitLadder, frequency int) (api.CircuitRatio, api.Errno) {
	if e := circuitError(c, frequency); e != api.OK {
		return api.CircuitRatio{}, e
	}
	x := sourceAt(c, frequency)
	if x.current == 0 {
		return api.CircuitRatio{}, api.ErrOpen
	}
	current := gaussOf(x.current)
	return reduced(gaussOf(x.power()), current.Re*current.Re+current.Im*current.Im), api.OK
}

// PowersAt are the powers of the load and of all parts.
func PowersAt(c api.CircuitLadder, frequency int) ([]int, api.Errno) {
	if e := circuitError(c, frequency); e != api.OK {
		return nil, e
	}
	var powers []int
	before := 0.0
	for _, x := range phasorsAt(c, frequency) {
		power := real(x.power())
		powers = append(powers, int(power-before))
		before = power
	}
	return powers, api.OK
}

// SoftAt is whether switching is soft at a frequency.
func SoftAt(c api.CircuitLadder, frequency int) (bool, api.Errno) {
	if e := circuitError(c, frequency); e != api.OK {
		return false, e
	}
	return softAt(c, frequency), api.OK
}

// ResonancesOf are the frequencies above which a resonance lies before the next one.
func ResonancesOf(c api.CircuitLadder) ([]int, api.Errno) {
	if _, e := CheckCircuit(c); e != api.OK {
		return nil, e
	}
	var l []int
	for f := 1; f < api.MaxCircuitFrequency; f++ {
		if softAt(c, f) != softAt(c, f+1) {
			l = append(l, f)
		}
	}
	return l, api.OK
}

// HardIn is the first case of a box in which switching is not soft.
func HardIn(c api.CircuitLadder, b api.CircuitBox) (api.CircuitCase, api.Errno) {
	_, wrong := CheckCircuit(c)
	if e := firstOf(wrong, boxError(b)); e != api.OK {
		return api.CircuitCase{}, e
	}
	for f := range numbersOf(b.Frequencies) {
		for r := range numbersOf(b.Resistances) {
			for l := range numbersOf(b.Inductances) {
				c.Load.Resistance, c.Load.Inductance = r, l
				if !softAt(c, f) {
					return api.CircuitCase{Frequency: f, Resistance: r, Inductance: l}, api.OK
				}
			}
		}
	}
	return api.CircuitCase{}, api.ErrNone
}
