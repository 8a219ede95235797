package field_test

import (
	"fmt"
	"math"
	"math/big"
	"testing"

	"martensite/api"
	"martensite/field"
)

// whole is a whole number of any size.
func whole(n int) *big.Int { return big.NewInt(int64(n)) }

// powersByDefinition are the conductances times the squares of the sizes of the voltages.
func powersByDefinition(x api.FieldLadder, d api.FieldDrive) []*big.Int {
	voltages, _ := field.VoltagesOf(x, d)
	var l []*big.Int
	for k, s := range x.Shells {
		z := voltages[k+1]
		square := new(big.Int).Add(new(big.Int).Mul(whole(z.Re), whole(z.Re)), new(big.Int).Mul(whole(z.Im), whole(z.Im)))
		l = append(l, square.Mul(square, whole(s.Conductance)))
	}
	return l
}

// sumOf is the sum of numbers.
func sumOf(l []*big.Int) *big.Int {
	sum := new(big.Int)
	for _, n := range l {
		sum.Add(sum, n)
	}
	return sum
}

// sharesByDefinition are the powers divided by their sum.
func sharesByDefinition(x api.FieldLadder, d api.FieldDrive) []*big.Rat {
	powers := powersByDefinition(x, d)
	var l []*big.Rat
	for _, p := range powers {
		l = append(l, new(big.Rat).SetFrac(p, sumOf(powers)))
	}
	return l
}

// wattsByDefinition are the watts of a total.
func wattsByDefinition(x api.FieldLadder, d api.FieldDrive, total int) []int {
	powers := powersByDefinition(x, d)
	upTo := func(shells int) int {
		part := new(big.Int).Mul(whole(total), sumOf(powers[:shells]))
		return int(part.Div(part, sumOf(powers)).Int64())
	}
	l := []int{}
	for k := range powers {
		l = append(l, upTo(k+1)-upTo(k))
	}
	return l
}

// depthByDefinition is the minimum number of shells with so many percent of the power.
func depthByDefinition(x api.FieldLadder, d api.FieldDrive, percent int) int {
	powers := powersByDefinition(x, d)
	needed := new(big.Int).Mul(sumOf(powers), whole(percent))
	for n := range powers {
		part := sumOf(powers[:n])
		if part.Mul(part, whole(100)).Cmp(needed) >= 0 {
			return n
		}
	}
	return len(powers)
}

// P2.3, example 2
func TestPowersOfExample(t *testing.T) {
	x, d := example(), drive(1, false, false)
	l, e := field.PowersOf(x, d)
	want(t, "PowersOf", l, e, []int{2, 1}, api.OK)
	for k, share := range []api.Frac{{Num: 2, Den: 3}, {Num: 1, Den: 3}} {
		f, e := field.ShareOf(x, d, k)
		want(t, "ShareOf", f, e, share, api.OK)
	}
	l, e = field.WattsIn(x, d, 100)
	want(t, "WattsIn", l, e, []int{66, 34}, api.OK)
	l, e = field.PowersOf(ladder(shell(2, 2, 1), shell(1, 1, 1)), d)
	want(t, "PowersOf with the conductance 2", l, e, []int{4, 1}, api.OK)
}

// P2.3, P2.8
func TestPowersByDefinition(t *testing.T) {
	ladders(func(x api.FieldLadder, d api.FieldDrive) {
		powers := powersByDefinition(x, d)
		l, e := field.PowersOf(x, d)
		want(t, "PowersOf", l, e, fmt.Sprint(powers), api.OK)
		voltages, _ := field.VoltagesOf(x, d)
		currents, _ := field.CurrentsOf(x, d)
		in := times(voltages[0], conjugate(currents[0]))
		want(t, "power in, power out", in.Re, api.OK, sumOf(powers).String(), api.OK)
	})
}

// P2.3: shares in lowest terms, and ErrLarge if a part exceeds MaxPart
func TestSharesByDefinition(t *testing.T) {
	large := 0
	ladders(func(x api.FieldLadder, d api.FieldDrive) {
		for k, share := range sharesByDefinition(x, d) {
			f, e := field.ShareOf(x, d, k)
			if share.Denom().Cmp(whole(api.MaxPart)) > 0 {
				large++
				want(t, "a share with a large part", f, e, api.Frac{}, api.ErrLarge)
			} else {
				want(t, "ShareOf", f, e, fmt.Sprintf("{Num:%v Den:%v}", share.Num(), share.Denom()), api.OK)
			}
		}
	})
	if large == 0 {
		t.Error("no large share was tried")
	}
}

// P2.3, P2.10: the watts add up to the total, and differ by less than 1 from the total times the share
func TestWattsByDefinition(t *testing.T) {
	totals := []int{0, 1, 7, 100, 99999, api.MaxFieldWatts}
	ladders(func(x api.FieldLadder, d api.FieldDrive) {
		shares := sharesByDefinition(x, d)
		for _, total := range totals {
			l, e := field.WattsIn(x, d, total)
			want(t, "WattsIn", l, e, wattsByDefinition(x, d, total), api.OK)
			sum := 0
			for k, n := range l {
				sum += n
				off := new(big.Rat).Mul(shares[k], big.NewRat(int64(total), 1))
				off.Sub(off, big.NewRat(int64(n), 1))
				if off.Abs(off).Cmp(big.NewRat(1, 1)) >= 0 {
					t.Errorf("the watts of the shell %d of %+v, %+v: %d of %d, not near %v", k, x, d, n, total, shares[k])
				}
			}
			want(t, "the sum of watts", sum, e, total, api.OK)
		}
	})
}

// P2.3, edge cases
func TestPowerEdges(t *testing.T) {
	x, d := ladder(shell(3, 4, 1)), drive(8, true)
	f, e := field.ShareOf(x, d, 0)
	want(t, "the share of one shell", f, e, api.Frac{Num: 1, Den: 1}, api.OK)
	l, e := field.WattsIn(x, d, 77)
	want(t, "the watts of one shell", l, e, []int{77}, api.OK)
	n, e := field.DepthFor(x, d, 100)
	want(t, "the depth of one shell", n, e, 1, api.OK)
	l, e = field.WattsIn(example(), drive(1, false, false), 0)
	want(t, "a total of 0", l, e, []int{0, 0}, api.OK)
}

// P2.3: the errors of shells, totals and percentages
func TestErrorsOfPowers(t *testing.T) {
	x, d := example(), drive(1, false, false)
	for _, shell := range []int{-1, 2, math.MinInt, math.MaxInt} {
		f, e := field.ShareOf(x, d, shell)
		want(t, "ShareOf", f, e, api.Frac{}, api.ErrMissing)
	}
	for _, total := range []int{-1, api.MaxFieldWatts + 1, math.MinInt, math.MaxInt} {
		l, e := field.WattsIn(x, d, total)
		want(t, "WattsIn", l, e, []int{}, api.ErrRange)
	}
	for _, percent := range []int{-1, 0, 101, math.MinInt, math.MaxInt} {
		n, e := field.DepthFor(x, d, percent)
		want(t, "DepthFor", n, e, 0, api.ErrRange)
	}
}

// P2.3, P2.12: a greater percentage has no smaller depth; edge case: 100 percent need all shells; example 5
func TestDepths(t *testing.T) {
	for percent, depth := range map[int]int{1: 1, 60: 1, 66: 1, 67: 2, 70: 2, 100: 2} {
		n, e := field.DepthFor(example(), drive(1, false, false), percent)
		want(t, "DepthFor in the example", n, e, depth, api.OK)
	}
	// Powers of 4 and 1: 80 percent are reached by equality.
	for percent, depth := range map[int]int{80: 1, 81: 2} {
		n, e := field.DepthFor(ladder(shell(2, 2, 1), shell(1, 1, 1)), drive(1, false, false), percent)
		want(t, "DepthFor of powers 4 and 1", n, e, depth, api.OK)
	}
	ladders(func(x api.FieldLadder, d api.FieldDrive) {
		before := 1
		for _, percent := range []int{1, 25, 50, 75, 80, 90, 95, 98, 99, 100} {
			n, e := field.DepthFor(x, d, percent)
			want(t, "DepthFor", n, e, depthByDefinition(x, d, percent), api.OK)
			if n < before {
				t.Errorf("the depth of %+v, %+v falls to %d for %d percent", x, d, n, percent)
			}
			before = n
		}
		want(t, "all of the power", before, api.OK, len(x.Shells), api.OK)
	})
}

// P2.12: shares never grow inwards for equal conductances
func TestSharesFallInwards(t *testing.T) {
	ladders(func(x api.FieldLadder, d api.FieldDrive) {
		alike := api.FieldLadder{Turns: x.Turns}
		for _, s := range x.Shells {
			s.Conductance = x.Shells[0].Conductance
			alike.Shells = append(alike.Shells, s)
		}
		l, _ := field.PowersOf(alike, d)
		for k := 1; k < len(l); k++ {
			if l[k] > l[k-1] {
				t.Errorf("the powers of %+v, %+v grow inwards: %v", alike, d, l)
			}
		}
	})
}

// P2.5, example 5
func TestFrequencyFor(t *testing.T) {
	n, e := field.FrequencyFor(example(), []bool{false, false}, api.FieldWish{Percent: 70, Depth: 1})
	want(t, "the example", n, e, 2, api.OK)
	n, e = field.FrequencyFor(example(), []bool{false, false}, api.FieldWish{Percent: 100, Depth: 1})
	want(t, "all in one shell", n, e, 0, api.ErrNone)
	n, e = field.FrequencyFor(example(), []bool{true, true}, api.FieldWish{Percent: 100, Depth: 2})
	want(t, "all in all shells", n, e, 1, api.OK)
	n, e = field.FrequencyFor(ladder(shell(1, 4, 1)), []bool{true}, api.FieldWish{Percent: 100, Depth: 1})
	want(t, "one shell", n, e, 1, api.OK)
	found := map[int]bool{}
	ladders(func(x api.FieldLadder, d api.FieldDrive) {
		for _, w := range []api.FieldWish{{Percent: 60, Depth: 1}, {Percent: 90, Depth: 1}, {Percent: 99, Depth: 1}, {Percent: 95, Depth: len(x.Shells)}, {Percent: 99, Depth: max(1, len(x.Shells)-1)}} {
			frequency, wanted := 0, api.ErrNone
			for f := 1; f <= api.MaxFieldFrequency && wanted != api.OK; f++ {
				if depthByDefinition(x, api.FieldDrive{Frequency: f, Hot: d.Hot}, w.Percent) <= w.Depth {
					frequency, wanted = f, api.OK
				}
			}
			found[frequency] = true
			n, e := field.FrequencyFor(x, d.Hot, w)
			want(t, "FrequencyFor", n, e, frequency, wanted)
		}
	})
	for f := range api.MaxFieldFrequency + 1 {
		if !found[f] {
			t.Errorf("no case has the frequency %d", f)
		}
	}
}

// P2.5: the errors of FrequencyFor, in their order
func TestErrorsOfFrequencyFor(t *testing.T) {
	wrong := api.FieldWish{}
	for _, b := range badLadders() {
		n, e := field.FrequencyFor(b.x, nil, wrong)
		want(t, "a bad ladder", n, e, 0, b.e)
	}
	two := []bool{false, true}
	for _, x := range []struct {
		hot []bool
		w   api.FieldWish
		e   api.Errno
	}{
		{nil, wrong, api.ErrShape},
		{[]bool{true}, api.FieldWish{Percent: 50, Depth: 1}, api.ErrShape},
		{[]bool{true, true, true}, api.FieldWish{Percent: 50, Depth: 1}, api.ErrShape},
		{two, api.FieldWish{Percent: 0, Depth: 1}, api.ErrRange},
		{two, api.FieldWish{Percent: 101, Depth: 1}, api.ErrRange},
		{two, api.FieldWish{Percent: math.MinInt, Depth: 1}, api.ErrRange},
		{two, api.FieldWish{Percent: 100, Depth: 0}, api.ErrRange},
		{two, api.FieldWish{Percent: 1, Depth: 3}, api.ErrRange},
		{two, api.FieldWish{Percent: 1, Depth: -1}, api.ErrRange},
		{two, api.FieldWish{Percent: 1, Depth: math.MaxInt}, api.ErrRange},
	} {
		n, e := field.FrequencyFor(example(), x.hot, x.w)
		want(t, "FrequencyFor", n, e, 0, x.e)
	}
}
