package field_test

import (
	"math"
	"testing"

	"martensite/api"
	"martensite/field"
)

// times is the product of whole complex numbers.
func times(a, b api.Gauss) api.Gauss {
	return api.Gauss{Re: a.Re*b.Re - a.Im*b.Im, Im: a.Re*b.Im + a.Im*b.Re}
}

// plus is their sum.
func plus(a, b api.Gauss) api.Gauss { return api.Gauss{Re: a.Re + b.Re, Im: a.Im + b.Im} }

// conjugate is the conjugate of a whole complex number.
func conjugate(z api.Gauss) api.Gauss { return api.Gauss{Re: z.Re, Im: -z.Im} }

// currentByDefinition is the sum, over this and all further nodes, of conductance times voltage.
func currentByDefinition(x api.FieldLadder, voltages []api.Gauss, node int) api.Gauss {
	sum := api.Gauss{}
	for k := node; k < len(x.Shells); k++ {
		sum = plus(sum, times(gauss(x.Shells[k].Conductance, 0), voltages[k+1]))
	}
	return sum
}

// P2.2, example 1
func TestVoltagesOfExample(t *testing.T) {
	l, e := field.VoltagesOf(example(), drive(1, false, false))
	want(t, "VoltagesOf", l, e, []api.Gauss{gauss(-1, 5), gauss(1, 1), gauss(1, 0)}, api.OK)
	l, e = field.CurrentsOf(example(), drive(1, false, false))
	want(t, "CurrentsOf", l, e, []api.Gauss{gauss(2, 1), gauss(1, 0)}, api.OK)
	l, e = field.VoltagesOf(example(), drive(1, true, true))
	want(t, "VoltagesOf a hot part", l, e, []api.Gauss{gauss(0, 3), gauss(1, 1), gauss(1, 0)}, api.OK)
	l, e = field.VoltagesOf(ladder(shell(3, 4, 2)), drive(2, false))
	want(t, "VoltagesOf one shell", l, e, []api.Gauss{gauss(1, 24), gauss(1, 0)}, api.OK)
}

// P2.2: each voltage is that after it plus i times the reactance times the current
func TestVoltagesByDefinition(t *testing.T) {
	ladders(func(x api.FieldLadder, d api.FieldDrive) {
		voltages, e := field.VoltagesOf(x, d)
		if e != api.OK || len(voltages) != len(x.Shells)+1 || voltages[len(x.Shells)] != gauss(1, 0) {
			t.Fatalf("VoltagesOf %+v, %+v: %+v, %d", x, d, voltages, e)
		}
		reactances, _ := field.ReactancesOf(x, d)
		currents := []api.Gauss{}
		for k, reactance := range reactances {
			currents = append(currents, currentByDefinition(x, voltages, k))
			if before := plus(voltages[k+1], times(gauss(0, reactance), currents[k])); voltages[k] != before {
				t.Errorf("the voltage before the reactance %d of %+v, %+v: %+v, want %+v", k, x, d, voltages[k], before)
			}
		}
		l, e := field.CurrentsOf(x, d)
		want(t, "CurrentsOf", l, e, currents, api.OK)
	})
}

// P2.9: CheckVoltages accepts VoltagesOf
func TestCheckVoltagesAccepts(t *testing.T) {
	ladders(func(x api.FieldLadder, d api.FieldDrive) {
		l, _ := field.VoltagesOf(x, d)
		i, e := field.CheckVoltages(x, d, l)
		want(t, "CheckVoltages", i, e, 0, api.OK)
	})
}

// P2.2, P2.9: any single voltage that is changed breaks the equation of the reactance 0, through which the currents to all nodes flow
func TestCheckVoltagesRejects(t *testing.T) {
	ladders(func(x api.FieldLadder, d api.FieldDrive) {
		l, _ := field.VoltagesOf(x, d)
		for k := range len(l) - 1 {
			for _, by := range []api.Gauss{gauss(1, 0), gauss(-1, 0), gauss(0, 1), gauss(0, -1)} {
				other := append([]api.Gauss{}, l...)
				other[k] = plus(other[k], by)
				i, e := field.CheckVoltages(x, d, other)
				want(t, "another voltage", i, e, 0, api.ErrProof)
			}
		}
	})
}

// P2.2: the index is that of the first reactance whose equation does not hold
func TestIndexOfProof(t *testing.T) {
	x := ladder(shell(1, 1, 1), shell(1, 1, 1), shell(1, 1, 1))
	d := drive(1, false, false, false)
	// Voltages for which only the equation of the reactance 2 does not hold: those before follow from the wrong one.
	wrong := []api.Gauss{{}, {}, gauss(7, 2), gauss(1, 0)}
	for k := 1; k >= 0; k-- {
		wrong[k] = plus(wrong[k+1], times(gauss(0, 1), currentByDefinition(x, wrong, k)))
	}
	i, e := field.CheckVoltages(x, d, wrong)
	want(t, "the last equation", i, e, 2, api.ErrProof)
	wrong[1].Re++
	wrong[0] = plus(wrong[1], times(gauss(0, 1), currentByDefinition(x, wrong, 0)))
	i, e = field.CheckVoltages(x, d, wrong)
	want(t, "the last two equations", i, e, 1, api.ErrProof)
	wrong[0].Im++
	i, e = field.CheckVoltages(x, d, wrong)
	want(t, "all equations", i, e, 0, api.ErrProof)
	l, _ := field.VoltagesOf(x, d)
	i, e = field.CheckVoltages(x, drive(2, false, false, false), l)
	want(t, "voltages by another drive", i, e, 0, api.ErrProof)
}

// P2.2: the errors of voltages, in their order
func TestErrorsOfVoltages(t *testing.T) {
	const most = api.MaxFieldPart
	one := gauss(1, 0)
	for _, x := range []struct {
		l []api.Gauss
		e api.Errno
	}{
		{nil, api.ErrShape},
		{[]api.Gauss{}, api.ErrShape},
		{[]api.Gauss{gauss(most+1, 0), gauss(2, 0)}, api.ErrShape},
		{[]api.Gauss{{}, {}, {}, one}, api.ErrShape},
		{[]api.Gauss{gauss(most+1, 0), {}, one}, api.ErrRange},
		{[]api.Gauss{{}, gauss(0, most+1), one}, api.ErrRange},
		{[]api.Gauss{{}, gauss(-most-1, 0), gauss(2, 0)}, api.ErrRange},
		{[]api.Gauss{{}, {}, gauss(1, -most-1)}, api.ErrRange},
		{[]api.Gauss{gauss(0, math.MinInt), {}, one}, api.ErrRange},
		{[]api.Gauss{gauss(math.MaxInt, 0), {}, one}, api.ErrRange},
		{[]api.Gauss{gauss(-1, 5), gauss(1, 1), {}}, api.ErrForm},
		{[]api.Gauss{gauss(-2, 10), gauss(2, 2), gauss(2, 0)}, api.ErrForm},
		{[]api.Gauss{{}, {}, gauss(1, 1)}, api.ErrForm},
		{[]api.Gauss{{}, {}, gauss(-1, 0)}, api.ErrForm},
		{[]api.Gauss{gauss(most, -most), gauss(-most, most), one}, api.ErrProof},
		{[]api.Gauss{gauss(-1, 5), gauss(1, 1), one}, api.OK},
	} {
		i, e := field.CheckVoltages(example(), drive(1, false, false), x.l)
		want(t, "CheckVoltages", i, e, 0, x.e)
	}
}
