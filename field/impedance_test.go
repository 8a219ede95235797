package field_test

import (
	"math"
	"math/big"
	"testing"

	"martensite/api"
	"martensite/field"
)

// number is an exact complex number.
type number struct{ re, im *big.Rat }

// numberOf is the exact complex number of a whole one.
func numberOf(z api.Gauss) number {
	return number{big.NewRat(int64(z.Re), 1), big.NewRat(int64(z.Im), 1)}
}

// add is the sum of exact complex numbers.
func add(a, b number) number {
	return number{new(big.Rat).Add(a.re, b.re), new(big.Rat).Add(a.im, b.im)}
}

// multiply is their product.
func multiply(a, b number) number {
	mul := func(x, y *big.Rat) *big.Rat { return new(big.Rat).Mul(x, y) }
	return number{new(big.Rat).Sub(mul(a.re, b.re), mul(a.im, b.im)), new(big.Rat).Add(mul(a.re, b.im), mul(a.im, b.re))}
}

// negative is a number with the other sign.
func negative(a number) number { return number{new(big.Rat).Neg(a.re), new(big.Rat).Neg(a.im)} }

// inverse is 1 divided by a number.
func inverse(a number) number {
	square := multiply(a, number{a.re, new(big.Rat).Neg(a.im)}).re
	return number{new(big.Rat).Quo(a.re, square), new(big.Rat).Neg(new(big.Rat).Quo(a.im, square))}
}

// quotient is the number of a quotient.
func quotient(r api.FieldRatio) number { return multiply(numberOf(r.Num), inverse(numberOf(r.Den))) }

// equal is whether exact complex numbers are equal.
func equal(a, b number) bool { return a.re.Cmp(b.re) == 0 && a.im.Cmp(b.im) == 0 }

// responses are the voltages of all nodes for a current of 1 into one node while the input has the voltage 0, from the equations of all nodes by elimination.
func responses(x api.FieldLadder, d api.FieldDrive, fed int) []number {
	reactances, _ := field.ReactancesOf(x, d)
	n := len(x.Shells)
	rows := make([][]number, n)
	for k := range rows {
		for range n + 1 {
			rows[k] = append(rows[k], numberOf(api.Gauss{}))
		}
		rows[k][k] = numberOf(gauss(x.Shells[k].Conductance, 0))
	}
	rows[fed][n] = numberOf(gauss(1, 0))
	for k, reactance := range reactances {
		admittance := inverse(numberOf(gauss(0, reactance)))
		rows[k][k] = add(rows[k][k], admittance)
		if k > 0 {
			rows[k-1][k-1] = add(rows[k-1][k-1], admittance)
			rows[k-1][k] = add(rows[k-1][k], negative(admittance))
			rows[k][k-1] = add(rows[k][k-1], negative(admittance))
		}
	}
	for k := range n {
		scale := inverse(rows[k][k])
		for j := range rows[k] {
			rows[k][j] = multiply(rows[k][j], scale)
		}
		for i := range n {
			if i != k {
				factor := negative(rows[i][k])
				for j := range rows[i] {
					rows[i][j] = add(rows[i][j], multiply(factor, rows[k][j]))
				}
			}
		}
	}
	l := make([]number, n)
	for k := range l {
		l[k] = rows[k][n]
	}
	return l
}

// wantReduced checks that a quotient is reduced.
func wantReduced(t *testing.T, r api.FieldRatio) {
	t.Helper()
	common := new(big.Int)
	for _, n := range []int{r.Num.Re, r.Num.Im, r.Den.Re, r.Den.Im} {
		common.GCD(nil, nil, common, new(big.Int).Abs(whole(n)))
	}
	if common.Cmp(whole(1)) != 0 || r.Den.Re < 0 || r.Den.Re == 0 && r.Den.Im <= 0 {
		t.Errorf("not reduced: %+v", r)
	}
}

// wantMultiple checks that one whole complex number is a whole multiple of another one.
func wantMultiple(t *testing.T, z, of api.Gauss) {
	t.Helper()
	ratio := multiply(numberOf(z), inverse(numberOf(of)))
	if ratio.im.Sign() != 0 || !ratio.re.IsInt() {
		t.Errorf("%+v is no multiple of %+v", z, of)
	}
}

// P2.4, example 3
func TestImpedanceOfExample(t *testing.T) {
	for _, c := range []struct {
		x    api.FieldLadder
		d    api.FieldDrive
		want api.FieldRatio
	}{
		{example(), drive(1, false, false), api.FieldRatio{Num: gauss(-4, 20), Den: gauss(2, 1)}},
		{example(), drive(1, true, true), api.FieldRatio{Num: gauss(0, 12), Den: gauss(2, 1)}},
		{ladder(shell(4, 1, 1)), drive(1, false), api.FieldRatio{Num: gauss(1, 4), Den: gauss(1, 0)}},
		{ladder(shell(3, 1, 1)), drive(1, false), api.FieldRatio{Num: gauss(4, 12), Den: gauss(3, 0)}},
	} {
		r, e := field.ImpedanceOf(c.x, c.d)
		want(t, "ImpedanceOf", r, e, c.want, api.OK)
	}
}

// P2.4: the square of the turns, times the voltage of the input, divided by the current to the node 0, reduced
func TestImpedanceByDefinition(t *testing.T) {
	signs := map[bool]bool{}
	ladders(func(x api.FieldLadder, d api.FieldDrive) {
		voltages, _ := field.VoltagesOf(x, d)
		currents, _ := field.CurrentsOf(x, d)
		signs[currents[0].Re < 0] = true
		r, e := field.ImpedanceOf(x, d)
		defined := multiply(multiply(numberOf(gauss(x.Turns*x.Turns, 0)), numberOf(voltages[0])), inverse(numberOf(currents[0])))
		if e != api.OK || !equal(quotient(r), defined) {
			t.Errorf("ImpedanceOf %+v, %+v: %+v, %d", x, d, r, e)
		}
		wantReduced(t, r)
		wantMultiple(t, currents[0], r.Den)
	})
	if len(signs) != 2 {
		t.Error("no current with another sign was tried")
	}
}

// P2.4, example 4
func TestTransferOfExample(t *testing.T) {
	for pair, ratio := range map[[2]int]api.FieldRatio{
		{0, 0}: {Num: gauss(2, -2), Den: gauss(1, -5)},
		{0, 1}: {Num: gauss(0, -2), Den: gauss(1, -5)},
		{1, 0}: {Num: gauss(0, -2), Den: gauss(1, -5)},
		{1, 1}: {Num: gauss(2, -3), Den: gauss(1, -5)},
	} {
		r, e := field.TransferOf(example(), drive(1, false, false), pair)
		want(t, "TransferOf", r, e, ratio, api.OK)
	}
	// The voltage of the input is 3 i, so that the first part of Den that is not 0 is the imaginary one.
	r, e := field.TransferOf(example(), drive(1, true, true), [2]int{0, 0})
	want(t, "TransferOf of a hot part", r, e, api.FieldRatio{Num: gauss(-1, 1), Den: gauss(0, 3)}, api.OK)
	// Here it is -717 i.
	r, e = field.TransferOf(ladder(shell(1, 2, 1), shell(3, 3, 1), shell(4, 2, 1), shell(3, 1, 1)), drive(1, false, false, false, false), [2]int{3, 0})
	want(t, "TransferOf with a negative imaginary part", r, e, api.FieldRatio{Num: gauss(0, -2), Den: gauss(0, 717)}, api.OK)
	r, e = field.TransferOf(ladder(shell(1, 2, 1)), drive(1, false), [2]int{0, 0})
	want(t, "the impedance of one node to ground", r, e, api.FieldRatio{Num: gauss(0, 2), Den: gauss(1, 2)}, api.OK)
}

// P2.4, P2.11: a current of 1 into the first node makes the voltage of the second one, also the other way round
func TestTransferByDefinition(t *testing.T) {
	ladders(func(x api.FieldLadder, d api.FieldDrive) {
		voltages, _ := field.VoltagesOf(x, d)
		for a := range x.Shells {
			for b, response := range responses(x, d, a) {
				r, e := field.TransferOf(x, d, [2]int{a, b})
				if e != api.OK || !equal(quotient(r), response) {
					t.Errorf("TransferOf %+v, %+v from %d to %d: %+v, %d", x, d, a, b, r, e)
				}
				wantReduced(t, r)
				wantMultiple(t, voltages[0], r.Den)
				back, e := field.TransferOf(x, d, [2]int{b, a})
				want(t, "the way back", back, e, r, api.OK)
			}
		}
	})
}

// P2.4: the errors of both nodes
func TestErrorsOfTransfers(t *testing.T) {
	for _, pair := range [][2]int{{-1, 0}, {2, 0}, {0, -1}, {0, 2}, {2, 2}, {math.MinInt, 1}, {1, math.MaxInt}} {
		r, e := field.TransferOf(example(), drive(1, false, false), pair)
		want(t, "TransferOf", r, e, api.FieldRatio{}, api.ErrMissing)
	}
}
