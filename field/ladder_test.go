package field_test

import (
	"math"
	"testing"

	"martensite/api"
	"martensite/field"
)

// P2.1
func TestCheckLadder(t *testing.T) {
	ladders(func(x api.FieldLadder, d api.FieldDrive) {
		i, e := field.CheckLadder(x)
		want(t, "CheckLadder", i, e, 0, api.OK)
		want(t, "CheckDrive", nil, field.CheckDrive(x, d), nil, api.OK)
	})
	for _, b := range badLadders() {
		i, e := field.CheckLadder(b.x)
		want(t, "CheckLadder with an error", i, e, b.index, b.e)
	}
}

// P2.1: the limits themselves are allowed, and what lies outside of them is not
func TestLimitsOfShells(t *testing.T) {
	for n := -1; n <= 6; n++ {
		e := api.OK
		if n < 1 || n > 4 {
			e = api.ErrRange
		}
		for what, s := range map[string]api.FieldShell{"conductance": shell(n, 1, 1), "cold": shell(1, n, 1), "hot": shell(1, max(n, 1), n)} {
			i, f := field.CheckLadder(ladder(s))
			want(t, what, i, f, 0, e)
		}
	}
	for _, n := range []int{math.MinInt, math.MaxInt} {
		for _, x := range []api.FieldLadder{{Turns: n, Shells: []api.FieldShell{shell(1, 1, 1)}}, ladder(shell(n, 1, 1)), ladder(shell(1, n, 1)), ladder(shell(1, 1, n))} {
			i, f := field.CheckLadder(x)
			want(t, "an extreme number", i, f, 0, api.ErrRange)
		}
	}
}

// P2.1 to P2.6: the error of the ladder comes before that of the drive, and both before all others
func TestErrorsOfLaddersAndDrives(t *testing.T) {
	for _, b := range badLadders() {
		wantError(t, b.x, drive(1, false, false), b.e)
		wantError(t, b.x, drive(0), b.e)
	}
	for _, b := range badDrives() {
		wantError(t, example(), b.d, b.e)
		wantPairError(t, example(), api.FieldPair{First: drive(1, false, false), Second: b.d}, b.e)
	}
	wantPairError(t, example(), api.FieldPair{First: drive(1), Second: drive(0, false, false)}, api.ErrShape)
	wantPairError(t, example(), api.FieldPair{First: drive(0, false, false), Second: drive(1)}, api.ErrRange)
}

// P2.1, example 1
func TestReactancesOfExample(t *testing.T) {
	l, e := field.ReactancesOf(example(), drive(1, false, false))
	want(t, "nothing is hot", l, e, []int{2, 1}, api.OK)
	l, e = field.ReactancesOf(example(), drive(3, true, false))
	want(t, "the surface is hot", l, e, []int{3, 3}, api.OK)
}

// P2.1: the frequency times Cold, or times Hot
func TestReactancesByDefinition(t *testing.T) {
	ladders(func(x api.FieldLadder, d api.FieldDrive) {
		reactances := []int{}
		for k, s := range x.Shells {
			if d.Hot[k] {
				reactances = append(reactances, d.Frequency*s.Hot)
			} else {
				reactances = append(reactances, d.Frequency*s.Cold)
			}
		}
		l, e := field.ReactancesOf(x, d)
		want(t, "ReactancesOf", l, e, reactances, api.OK)
	})
}

// P2.1, edge case: a shell with Hot equal to Cold does not change when it is hot
func TestAlikeWhenHot(t *testing.T) {
	x := ladder(shell(3, 2, 2), shell(1, 4, 4), shell(2, 3, 3))
	never, _ := field.VoltagesOf(x, drive(5, false, false, false))
	for _, hot := range hots(3) {
		l, e := field.VoltagesOf(x, drive(5, hot...))
		want(t, "voltages", l, e, never, api.OK)
	}
}

// P2.1, example 8
func TestHotAt(t *testing.T) {
	for _, x := range []struct {
		kelvins []int
		curie   int
		hot     []bool
		e       api.Errno
	}{
		{[]int{1000, 1050}, 1040, []bool{false, true}, api.OK},
		{[]int{1039, 1040, 1041}, 1040, []bool{false, true, true}, api.OK},
		{[]int{1, 3000, 2999, 1}, 3000, []bool{false, true, false, false}, api.OK},
		{[]int{1, 3000}, 1, []bool{true, true}, api.OK},
		{nil, 1040, nil, api.OK},
		{[]int{}, 1040, nil, api.OK},
		{nil, 0, nil, api.ErrRange},
		{nil, 3001, nil, api.ErrRange},
		{[]int{1}, -1, nil, api.ErrRange},
		{[]int{0}, 1040, nil, api.ErrRange},
		{[]int{1, 3001}, 1040, nil, api.ErrRange},
		{[]int{1, 1, math.MinInt}, 1040, nil, api.ErrRange},
		{[]int{1}, math.MaxInt, nil, api.ErrRange},
		{[]int{1, 1, 1, 1, 1}, 1040, nil, api.ErrLarge},
		{[]int{0, 1, 1, 1, 1}, 0, nil, api.ErrLarge},
	} {
		l, e := field.HotAt(x.kelvins, x.curie)
		want(t, "HotAt", l, e, x.hot, x.e)
	}
}
