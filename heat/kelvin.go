package heat

import "martensite/api"

// kelvin is the temperature of an energy in the table. Its denominator is at most MaxHeatEnergy.
func (p part) kelvin(energy int) ratio { return p.table.at(whole(energy)) }

// loss is the loss of a law at the temperature of an energy in the table.
func (p part) loss(law, energy int) int { return p.losses[law].at(p.kelvin(energy)).floor() }

// divisor is the greatest common divisor of two numbers above 0.
func divisor(a, b int) int {
	for b > 0 {
		a, b = b, a%b
	}
	return a
}

// KelvinAt is the temperature of an energy.
func KelvinAt(s api.HeatSetup, energy int) (api.Frac, api.Errno) {
	p := partOf(s)
	if f := firstOf(setupError(s), p.energyError(energy)); f != api.OK {
		return api.Frac{}, f
	}
	k := p.kelvin(energy)
	n := divisor(k.num, k.den)
	return api.Frac{Num: k.num / n, Den: k.den / n}, api.OK
}

// EnergyAt is the range of the energy with a temperature.
func EnergyAt(s api.HeatSetup, kelvin int) (api.Range, api.Errno) {
	energies := partOf(s).table.turned()
	if f := firstOf(setupError(s), errorIf(!energies.covers(kelvin), api.ErrRange)); f != api.OK {
		return api.Range{}, f
	}
	energy := energies.at(whole(kelvin))
	return api.Range{Lo: energy.floor(), Hi: energy.ceiling()}, api.OK
}

// LossAt is the loss of a law at the temperature of an energy.
func LossAt(s api.HeatSetup, law, energy int) (int, api.Errno) {
	p := partOf(s)
	if f := firstOf(setupError(s), lawError(s, law), p.energyError(energy)); f != api.OK {
		return 0, f
	}
	return p.loss(law, energy), api.OK
}
