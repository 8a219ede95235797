package circuit_test

import (
	"math"
	"math/big"
	"testing"

	"martensite/api"
	"martensite/circuit"
)

// times is the product of whole complex numbers.
func times(a, b api.Gauss) api.Gauss {
	return api.Gauss{Re: a.Re*b.Re - a.Im*b.Im, Im: a.Re*b.Im + a.Im*b.Re}
}

// plus is their sum.
func plus(a, b api.Gauss) api.Gauss { return api.Gauss{Re: a.Re + b.Re, Im: a.Im + b.Im} }

// element is the element of a part in whole numbers.
func element(p api.CircuitPart, f int) api.Gauss {
	return api.Gauss{Re: f * p.Resistance, Im: f*f*p.Inductance - p.Elastance}
}

// power is V times the conjugate of I.
func power(x api.CircuitPhasor) api.Gauss {
	return times(x.Voltage, api.Gauss{Re: x.Current.Re, Im: -x.Current.Im})
}

// phasorsByDefinition are the phasors in whole numbers: each one with all that multiplies it later.
func phasorsByDefinition(c api.CircuitLadder, f int) []api.CircuitPhasor {
	whole := api.Gauss{Re: f}
	own := []api.CircuitPhasor{{Voltage: element(c.Load, f), Current: whole}}
	scales := []api.Gauss{}
	for i, p := range c.Parts {
		e, x := element(p, f), own[i]
		if p.Shunt {
			own = append(own, api.CircuitPhasor{Voltage: times(e, x.Voltage), Current: plus(times(e, x.Current), times(whole, x.Voltage))})
			scales = append(scales, e)
		} else {
			own = append(own, api.CircuitPhasor{Voltage: plus(times(whole, x.Voltage), times(e, x.Current)), Current: times(whole, x.Current)})
			scales = append(scales, whole)
		}
	}
	for i := range own {
		for _, s := range scales[i:] {
			own[i] = api.CircuitPhasor{Voltage: times(s, own[i].Voltage), Current: times(s, own[i].Current)}
		}
	}
	return own
}

// last is the last of several items.
func last[T any](l []T) T { return l[len(l)-1] }

// divisor is the greatest common divisor.
func divisor(a, b, c int) int {
	g := new(big.Int)
	for _, n := range []int{a, b, c} {
		g.GCD(nil, nil, g, new(big.Int).Abs(big.NewInt(int64(n))))
	}
	return int(g.Int64())
}

// badLadders are circuits with an error, and its index.
func badLadders() []struct {
	c     api.CircuitLadder
	index int
	e     api.Errno
} {
	p := func(r, l, e int) api.CircuitPart { return api.CircuitPart{Resistance: r, Inductance: l, Elastance: e} }
	shunt := api.CircuitPart{Resistance: 99, Shunt: true}
	return []struct {
		c     api.CircuitLadder
		index int
		e     api.Errno
	}{
		{api.CircuitLadder{Load: shunt, Parts: make([]api.CircuitPart, 3)}, 0, api.ErrLarge},
		{api.CircuitLadder{Load: shunt, Parts: []api.CircuitPart{p(11, 0, 0)}}, 0, api.ErrForm},
		{api.CircuitLadder{Load: p(11, 0, 0), Parts: []api.CircuitPart{p(11, 0, 0)}}, 0, api.ErrRange},
		{api.CircuitLadder{Load: p(0, 5, 0)}, 0, api.ErrRange},
		{api.CircuitLadder{Load: p(0, 0, 601)}, 0, api.ErrRange},
		{api.CircuitLadder{Load: p(-1, 0, 0)}, 0, api.ErrRange},
		{api.CircuitLadder{Load: p(0, -1, 0)}, 0, api.ErrRange},
		{api.CircuitLadder{Load: p(0, 0, -1)}, 0, api.ErrRange},
		{api.CircuitLadder{Load: p(0, 0, math.MinInt)}, 0, api.ErrRange},
		{api.CircuitLadder{Parts: []api.CircuitPart{{Resistance: 11, Shunt: true}, p(0, 5, 0)}}, 1, api.ErrRange},
		{api.CircuitLadder{Parts: []api.CircuitPart{{}, p(0, 5, 0)}}, 2, api.ErrRange},
		{api.CircuitLadder{Parts: []api.CircuitPart{{}, p(0, 0, math.MaxInt)}}, 2, api.ErrRange},
	}
}

// P1.3
func TestCheckCircuit(t *testing.T) {
	ladders(func(c api.CircuitLadder, f int) {
		i, e := circuit.CheckCircuit(c)
		want(t, "CheckCircuit", i, e, 0, api.OK)
	})
	for _, x := range badLadders() {
		i, e := circuit.CheckCircuit(x.c)
		want(t, "CheckCircuit with an error", i, e, x.index, x.e)
	}
}

// P1.3: the errors of the circuit come before those of frequencies and boxes
func TestCircuitErrors(t *testing.T) {
	frequencies := []int{-1, 0, 13, math.MaxInt, math.MinInt}
	check := func(c api.CircuitLadder, f int, wanted api.Errno) {
		t.Helper()
		l, e := circuit.PhasorsAt(c, f)
		want(t, "PhasorsAt", l, e, []api.CircuitPhasor{}, wanted)
		z, e := circuit.ImpedanceAt(c, f)
		want(t, "ImpedanceAt", z, e, api.CircuitRatio{}, wanted)
		w, e := circuit.PowersAt(c, f)
		want(t, "PowersAt", w, e, []int{}, wanted)
		is, e := circuit.SoftAt(c, f)
		want(t, "SoftAt", is, e, false, wanted)
	}
	for _, x := range badLadders() {
		check(x.c, 0, x.e)
		check(x.c, 1, x.e)
		l, e := circuit.ResonancesOf(x.c)
		want(t, "ResonancesOf", l, e, []int{}, x.e)
		h, e := circuit.HardIn(x.c, api.CircuitBox{Frequencies: span(0, 0), Inductances: span(2, 1)})
		want(t, "HardIn", h, e, api.CircuitCase{}, x.e)
	}
	for _, f := range frequencies {
		check(api.CircuitLadder{Load: api.CircuitPart{Resistance: 1, Inductance: 1}}, f, api.ErrRange)
	}
}

// P1.3
func TestPhasorsByDefinition(t *testing.T) {
	ladders(func(c api.CircuitLadder, f int) {
		phasors := phasorsByDefinition(c, f)
		l, e := circuit.PhasorsAt(c, f)
		want(t, "PhasorsAt", l, e, phasors, api.OK)
		is, e := circuit.SoftAt(c, f)
		want(t, "SoftAt", is, e, power(last(phasors)).Im > 0, api.OK)
		powers, before := []int{}, 0
		for _, x := range phasors {
			powers = append(powers, power(x).Re-before)
			before = power(x).Re
		}
		w, e := circuit.PowersAt(c, f)
		want(t, "PowersAt", w, e, powers, api.OK)
	})
}

// P1.3: the impedance is reduced
func TestImpedanceByDefinition(t *testing.T) {
	open := 0
	ladders(func(c api.CircuitLadder, f int) {
		x := last(phasorsByDefinition(c, f))
		z, e := circuit.ImpedanceAt(c, f)
		if x.Current == (api.Gauss{}) {
			open++
			want(t, "ImpedanceAt of an open circuit", z, e, api.CircuitRatio{}, api.ErrOpen)
			return
		}
		num, den := power(x), x.Current.Re*x.Current.Re+x.Current.Im*x.Current.Im
		d := divisor(num.Re, num.Im, den)
		want(t, "ImpedanceAt", z, e, api.CircuitRatio{Num: api.Gauss{Re: num.Re / d, Im: num.Im / d}, Den: den / d}, api.OK)
	})
	if open == 0 {
		t.Error("no open circuit was tried")
	}
}

// P1.3, examples 4 and 5
func TestCircuitOfExamples(t *testing.T) {
	c := ladder(t, "s 2 1 0;p 0 0 18")
	l, e := circuit.PhasorsAt(c, 3)
	want(t, "PhasorsAt", l, e, []api.CircuitPhasor{
		{Voltage: api.Gauss{Re: 162, Im: -108}, Current: api.Gauss{Im: -54}},
		{Voltage: api.Gauss{Re: 162, Im: -108}, Current: api.Gauss{Re: 18, Im: -27}}}, api.OK)
	z, e := circuit.ImpedanceAt(c, 3)
	want(t, "ImpedanceAt", z, e, api.CircuitRatio{Num: api.Gauss{Re: 72, Im: 30}, Den: 13}, api.OK)
	z, e = circuit.ImpedanceAt(ladder(t, "s 2 1 0"), 3)
	want(t, "ImpedanceAt of the load", z, e, api.CircuitRatio{Num: api.Gauss{Re: 2, Im: 3}, Den: 1}, api.OK)
	w, e := circuit.PowersAt(c, 3)
	want(t, "PowersAt", w, e, []int{5832, 0}, api.OK)
	is, e := circuit.SoftAt(c, 3)
	want(t, "SoftAt", is, e, true, api.OK)
}

// P1.3, edge cases
func TestCircuitEdges(t *testing.T) {
	w, e := circuit.PowersAt(ladder(t, "s 0 1 0;s 3 0 0"), 2)
	want(t, "a load that takes no power", w, e, []int{0, 48}, api.OK)
	shorted := ladder(t, "s 2 1 0;p 0 1 4")
	l, e := circuit.PhasorsAt(shorted, 2)
	want(t, "a shunt that shorts", l, e, []api.CircuitPhasor{{}, {Current: api.Gauss{Re: 8, Im: 8}}}, api.OK)
	z, e := circuit.ImpedanceAt(shorted, 2)
	want(t, "the impedance of a short", z, e, api.CircuitRatio{Den: 1}, api.OK)
	is, e := circuit.SoftAt(shorted, 2)
	want(t, "a short is not soft", is, e, false, api.OK)
	is, e = circuit.SoftAt(ladder(t, "s 1 1 4"), 2)
	want(t, "in phase", is, e, false, api.OK)
	is, e = circuit.SoftAt(ladder(t, "s 1 1 3"), 2)
	want(t, "hardly above", is, e, true, api.OK)
	z, e = circuit.ImpedanceAt(ladder(t, "s 0 1 0;p 0 0 4"), 2)
	want(t, "open", z, e, api.CircuitRatio{}, api.ErrOpen)
	w, e = circuit.PowersAt(ladder(t, "s 0 1 0;p 0 0 4"), 2)
	want(t, "powers of an open circuit", w, e, []int{0, 0}, api.OK)
}

// P1.3, example 6
func TestResonances(t *testing.T) {
	for s, wanted := range map[string][]int{
		"s 1 1 20":              {4},
		"s 0 1 1":               {1},
		"s 0 1 121":             {11},
		"s 0 1 120":             {10},
		"s 0 1 144":             {},
		"s 1 1 0":               {},
		"s 1 0 20":              {},
		"s 1 1 0;p 0 0 36":      {5},
		"s 1 1 20;p 0 0 90":     {4, 10},
		"s 0 1 10;p 0 4 170":    {3, 5, 6},
		"s 10 4 600;s 10 4 600": {},
	} {
		c := ladder(t, s)
		var byDefinition []int
		for f := 1; f < api.MaxCircuitFrequency; f++ {
			low, high := power(last(phasorsByDefinition(c, f))).Im, power(last(phasorsByDefinition(c, f+1))).Im
			if low <= 0 && high > 0 || high <= 0 && low > 0 {
				byDefinition = append(byDefinition, f)
			}
		}
		l, e := circuit.ResonancesOf(c)
		want(t, "ResonancesOf "+s, l, e, byDefinition, api.OK)
		want(t, "ResonancesOf "+s, l, e, wanted, api.OK)
	}
}

// P1.3, P1.11
func TestHardIn(t *testing.T) {
	alone := ladder(t, "s 1 1 20")
	box := api.CircuitBox{Resistances: span(1, 2), Inductances: span(1, 2), Frequencies: span(4, 6)}
	h, e := circuit.HardIn(alone, box)
	want(t, "at 4", h, e, api.CircuitCase{Frequency: 4, Resistance: 1, Inductance: 1}, api.OK)
	box.Frequencies.Lo = 5
	h, e = circuit.HardIn(alone, box)
	want(t, "from 5 on", h, e, api.CircuitCase{}, api.ErrNone)
	box.Frequencies, box.Inductances = span(3, 6), span(2, 4)
	h, e = circuit.HardIn(alone, box)
	want(t, "at 3", h, e, api.CircuitCase{Frequency: 3, Resistance: 1, Inductance: 2}, api.OK)
	want(t, "the circuit", alone, api.OK, ladder(t, "s 1 1 20"), api.OK)
}

// hardByDefinition is the first case that is not soft, by SoftAt of each one.
func hardByDefinition(c api.CircuitLadder, b api.CircuitBox) (api.CircuitCase, api.Errno) {
	for f := b.Frequencies.Lo; f <= b.Frequencies.Hi; f++ {
		for r := b.Resistances.Lo; r <= b.Resistances.Hi; r++ {
			for l := b.Inductances.Lo; l <= b.Inductances.Hi; l++ {
				x := api.CircuitLadder{Load: api.CircuitPart{Resistance: r, Inductance: l, Elastance: c.Load.Elastance}, Parts: c.Parts}
				if is, _ := circuit.SoftAt(x, f); !is {
					return api.CircuitCase{Frequency: f, Resistance: r, Inductance: l}, api.OK
				}
			}
		}
	}
	return api.CircuitCase{}, api.ErrNone
}

// P1.3, P1.11
func TestHardInByDefinition(t *testing.T) {
	found := map[api.Errno]int{}
	n := 0
	ladders(func(c api.CircuitLadder, f int) {
		n++
		b := api.CircuitBox{Resistances: span(n%4, n%4+n%7), Inductances: span(n%3, n%3+n%2), Frequencies: span(f, min(f+n%5, 12))}
		h, e := circuit.HardIn(c, b)
		x, g := hardByDefinition(c, b)
		want(t, "HardIn", h, e, x, g)
		found[e]++
	})
	if found[api.OK] < 100 || found[api.ErrNone] < 100 {
		t.Errorf("too few cases: %v", found)
	}
}

// P1.3, errors of boxes in their order
func TestHardInErrors(t *testing.T) {
	c := ladder(t, "s 1 1 20")
	far, back := span(-1, 99), span(2, 1)
	for _, x := range []struct {
		b api.CircuitBox
		e api.Errno
	}{
		{api.CircuitBox{Resistances: span(11, 10), Inductances: back, Frequencies: back}, api.ErrRange},
		{api.CircuitBox{Resistances: span(-1, 10), Inductances: back, Frequencies: back}, api.ErrRange},
		{api.CircuitBox{Resistances: span(0, 11), Inductances: back, Frequencies: back}, api.ErrRange},
		{api.CircuitBox{Resistances: back, Inductances: far, Frequencies: far}, api.ErrOrder},
		{api.CircuitBox{Inductances: span(0, 5), Frequencies: back}, api.ErrRange},
		{api.CircuitBox{Inductances: span(-1, 4), Frequencies: back}, api.ErrRange},
		{api.CircuitBox{Inductances: back, Frequencies: far}, api.ErrOrder},
		{api.CircuitBox{Frequencies: span(0, 12)}, api.ErrRange},
		{api.CircuitBox{Frequencies: span(1, 13)}, api.ErrRange},
		{api.CircuitBox{Frequencies: span(13, 0)}, api.ErrRange},
		{api.CircuitBox{Frequencies: back}, api.ErrOrder},
		{api.CircuitBox{Resistances: span(0, 10), Inductances: span(4, 4), Frequencies: span(3, 12)}, api.ErrNone},
	} {
		h, e := circuit.HardIn(c, x.b)
		want(t, "HardIn", h, e, api.CircuitCase{}, x.e)
	}
}

// P1.9
func TestWhatGoesIn(t *testing.T) {
	ladders(func(c api.CircuitLadder, f int) {
		l, _ := circuit.PhasorsAt(c, f)
		w, _ := circuit.PowersAt(c, f)
		sum := 0
		for _, n := range w {
			if n < 0 {
				t.Errorf("a power below 0: %v of %+v at %d", w, c, f)
			}
			sum += n
		}
		want(t, "the sum of the powers", sum, api.OK, power(last(l)).Re, api.OK)
		z, e := circuit.ImpedanceAt(c, f)
		if e == api.OK {
			v := last(l).Voltage
			want(t, "the impedance times I", times(z.Num, last(l).Current), e, api.Gauss{Re: v.Re * z.Den, Im: v.Im * z.Den}, api.OK)
		}
	})
}

// rational is the parts of an impedance as fractions.
func rational(z api.CircuitRatio) [2]*big.Rat {
	return [2]*big.Rat{big.NewRat(int64(z.Num.Re), int64(z.Den)), big.NewRat(int64(z.Num.Im), int64(z.Den))}
}

// P1.10
func TestReactance(t *testing.T) {
	ladders(func(c api.CircuitLadder, f int) {
		z, e := circuit.ImpedanceAt(api.CircuitLadder{Load: c.Load}, f)
		own, load := element(c.Load, f), rational(z)
		if e != api.OK || load[0].Cmp(big.NewRat(int64(own.Re), int64(f))) != 0 || load[1].Cmp(big.NewRat(int64(own.Im), int64(f))) != 0 {
			t.Errorf("the impedance of the load %+v at %d: %v, %d", c.Load, f, z, e)
		}
		if len(c.Parts) == 0 || last(c.Parts).Shunt {
			return
		}
		all, e := circuit.ImpedanceAt(c, f)
		before, g := circuit.ImpedanceAt(api.CircuitLadder{Load: c.Load, Parts: c.Parts[:len(c.Parts)-1]}, f)
		if e != g {
			t.Errorf("the errors of impedances: %d, %d", e, g)
		}
		if e != api.OK {
			return
		}
		x, y, part := rational(all), rational(before), element(last(c.Parts), f)
		for i, n := range []int{part.Re, part.Im} {
			if x[i].Cmp(new(big.Rat).Add(y[i], big.NewRat(int64(n), int64(f)))) != 0 {
				t.Errorf("a series part of %+v at %d: %v after %v", c, f, all, before)
			}
		}
		if last(c.Parts).Resistance == 0 && x[0].Cmp(y[0]) != 0 {
			t.Errorf("the real part of %+v at %d: %v after %v", c, f, all, before)
		}
	})
}
