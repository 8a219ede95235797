package distort_test

import (
	"math"
	"math/rand"
	"slices"
	"testing"

	"martensite/api"
	"martensite/distort"
)

// badPress is a press with an error, and its index.
type badPress struct {
	p     api.DistortPress
	index int
	e     api.Errno
}

// badPresses are presses with errors.
func badPresses() []badPress {
	l := []badPress{
		{press(-1, -1, -1), 0, api.ErrShape},
		{press(3, 2, 12, []int{}...), 0, api.ErrShape},
		{press(-1, 2, 12, 1, 2, 3, 4), 0, api.ErrLarge},
		{press(3, 2, 12, 0, 0, 0, 0), 0, api.ErrLarge},
		{press(-1, 2, 12, 0), 0, api.ErrRange},
		{press(3, 2, 12, -5, 0), 0, api.ErrRange},
		{press(3, 2, 12, 5, 10001), 1, api.ErrRange},
		{press(3, 2, 12, 5, 8, 0), 2, api.ErrRange},
		{press(3, 2, 12, 5, math.MinInt), 1, api.ErrRange},
		{press(3, 2, 12, math.MaxInt, 5), 0, api.ErrRange},
		{press(3, 2, 12, 5, 5), 1, api.ErrOrder},
		{press(3, 2, 12, 5, 8, 7), 2, api.ErrOrder},
		{press(-1, 2, 12, 5, 4, 0), 1, api.ErrOrder},
	}
	for _, n := range []int{-1, math.MinInt, math.MaxInt} {
		l = append(l,
			badPress{press(n, 2, 12, 5, 8), 0, api.ErrRange},
			badPress{press(3, n, 12, 5, 8), 0, api.ErrRange},
			badPress{press(3, 2, n, 5, 8), 0, api.ErrRange})
	}
	return append(l,
		badPress{press(10001, 2, 12, 5, 8), 0, api.ErrRange},
		badPress{press(3, 1001, 12, 5, 8), 0, api.ErrRange},
		badPress{press(3, 2, 40001, 5, 8), 0, api.ErrRange})
}

// P6.2
func TestCheckPress(t *testing.T) {
	for _, x := range badPresses() {
		i, e := distort.CheckPress(x.p)
		want(t, "CheckPress", i, e, x.index, x.e)
	}
	for _, p := range []api.DistortPress{
		examplePress(),
		press(0, 0, 0, 1),
		press(10000, 1000, 40000, 1, 2, 10000),
		press(10000, 1000, 40000, 10000),
	} {
		i, e := distort.CheckPress(p)
		want(t, "CheckPress", i, e, 0, api.OK)
	}
}

// P6.2, P6.3: the error of the press comes after that of the shaft, and before all others
func TestErrorsOfPresses(t *testing.T) {
	bad := slices.Repeat(strokes(down(9, 9)), api.MaxDistortStrokes+1)
	for _, x := range badPresses() {
		n, e := distort.BentBy(x.p, down(0, 77))
		want(t, "BentBy", n, e, 0, x.e)
		s, e := distort.After(example(), x.p, bad)
		want(t, "After", s, e, none(), x.e)
		n, e = distort.CheckPlan(example(), x.p, api.DistortPlan{Strokes: bad, Tolerance: -1})
		want(t, "CheckPlan", n, e, 0, x.e)
		plan, e := distort.FewestOf(example(), x.p, -1)
		want(t, "FewestOf", plan, e, strokes(), x.e)
		n, i, e := distort.BoundOf(example(), x.p, -1)
		want(t, "BoundOf", []int{n, i}, e, []int{0, 0}, x.e)
	}
}

// P6.2, example 3, edge case of an amount of at most Spring
func TestBentBy(t *testing.T) {
	for _, x := range []struct {
		p api.DistortPress
		x api.DistortStroke
		n int
		e api.Errno
	}{
		{examplePress(), down(0, 5), 4, api.OK},
		{examplePress(), down(0, 8), 10, api.OK},
		{examplePress(), up(0, 5), -4, api.OK},
		{examplePress(), up(0, 8), -10, api.OK},
		{press(5, 2, 12, 5, 6, 8), down(0, 5), 0, api.OK},
		{press(5, 2, 12, 5, 6, 8), up(0, 5), 0, api.OK},
		{press(5, 2, 12, 5, 6, 8), down(0, 6), 2, api.OK},
		{press(9, 2, 12, 5, 6, 8), up(0, 8), 0, api.OK},
		{press(3, 0, 12, 5, 8), down(0, 8), 0, api.OK},
		{press(0, 1000, 0, 10000), up(0, 10000), -10000000, api.OK},
		// The joint does not matter, nor does the limit.
		{examplePress(), down(-7, 8), 10, api.OK},
		{press(3, 2, 0, 5, 8), up(math.MaxInt, 8), -10, api.OK},
		{examplePress(), down(0, 6), 0, api.ErrMissing},
		{examplePress(), up(0, 0), 0, api.ErrMissing},
		{examplePress(), up(0, -8), 0, api.ErrMissing},
		{examplePress(), up(0, math.MinInt), 0, api.ErrMissing},
	} {
		n, e := distort.BentBy(x.p, x.x)
		want(t, "BentBy", n, e, x.n, x.e)
	}
}

// P6.2, example 3 and edge cases
func TestAfter(t *testing.T) {
	p := examplePress()
	for _, x := range []struct {
		s    api.DistortShaft
		p    api.DistortPress
		plan []api.DistortStroke
		want api.DistortShaft
	}{
		{example(), p, nil, example()},
		{example(), p, strokes(), example()},
		{example(), p, strokes(up(0, 8)), shaft(100, 40, 0, 2)},
		{example(), p, strokes(down(0, 8)), shaft(100, 40, 20, 22)},
		{example(), p, strokes(up(0, 5), up(0, 5)), shaft(100, 40, 2, 4)},
		{exampleTwo(), p, strokes(down(1, 8), up(0, 8)), shaft(100, 40, 0, 2, 80, 5, 5)},
		// The limit holds for each joint, not for all of them.
		{exampleTwo(), p, strokes(down(1, 5), up(0, 5), up(1, 5), up(0, 5)), shaft(100, 40, 2, 4, 80, -5, -5)},
		{example(), press(8, 2, 12, 5, 8), strokes(up(0, 8)), example()},
		{example(), press(3, 2, 32, 5, 8), slices.Repeat(strokes(down(0, 8)), 4), shaft(100, 40, 50, 52)},
		// Only the kinks after all strokes are limited.
		{shaft(100, 40, 99995, 99999), press(3, 2, 13, 5, 8), strokes(down(0, 5), up(0, 8)), shaft(100, 40, 99989, 99993)},
		{shaft(100, 40, -99996, 99990), p, strokes(down(0, 8)), shaft(100, 40, -99986, 100000)},
		{shaft(100, 40, -99990, 99996), p, strokes(up(0, 8)), shaft(100, 40, -100000, 99986)},
		{shaft(9), press(0, 0, 0, 1), nil, shaft(9)},
	} {
		s, e := distort.After(x.s, x.p, x.plan)
		want(t, "After", s, e, x.want, api.OK)
	}
}

// badPlan is strokes with an error for a shaft and a press.
type badPlan struct {
	s    api.DistortShaft
	p    api.DistortPress
	plan []api.DistortStroke
	e    api.Errno
}

// badPlans are strokes with errors.
func badPlans() []badPlan {
	s, two, p := example(), exampleTwo(), examplePress()
	return []badPlan{
		{s, p, slices.Repeat(strokes(down(9, 9)), 5), api.ErrLarge},
		{s, p, slices.Repeat(strokes(down(0, 5)), 5), api.ErrLarge},
		{s, p, strokes(down(1, 5)), api.ErrMissing},
		{s, p, strokes(down(-1, 5)), api.ErrMissing},
		{s, p, strokes(down(math.MinInt, 5)), api.ErrMissing},
		{s, p, strokes(down(math.MaxInt, 5)), api.ErrMissing},
		{shaft(100), p, strokes(down(0, 5)), api.ErrMissing},
		{s, p, strokes(up(0, 5), up(0, 6)), api.ErrMissing},
		{s, p, strokes(down(0, 0)), api.ErrMissing},
		{s, p, strokes(down(0, math.MinInt)), api.ErrMissing},
		// All strokes are looked at before the limit.
		{s, p, strokes(down(0, 8), up(0, 8), up(0, 7)), api.ErrMissing},
		{s, p, strokes(down(0, 8), down(0, 5)), api.ErrFull},
		{s, p, strokes(up(0, 8), down(0, 8)), api.ErrFull},
		{s, p, slices.Repeat(strokes(up(0, 5)), 3), api.ErrFull},
		{two, p, strokes(up(1, 5), up(0, 8), down(1, 8)), api.ErrFull},
		{s, press(3, 2, 0, 5), strokes(down(0, 5)), api.ErrFull},
		{s, press(3, 2, 4, 5), strokes(down(0, 5)), api.ErrFull},
		{shaft(100, 40, 100000, 100000), p, strokes(down(0, 8), down(0, 5)), api.ErrFull},
	}
}

// farPlans are strokes after which a kink would be too great.
func farPlans() []badPlan {
	p := examplePress()
	return []badPlan{
		{shaft(100, 40, -5, 99991), p, strokes(down(0, 8)), api.ErrRange},
		{shaft(100, 40, -99991, 5), p, strokes(up(0, 8)), api.ErrRange},
		{shaft(100, 40, 0, 0, 80, 99997, 99997), p, strokes(up(0, 5), down(1, 5)), api.ErrRange},
		{shaft(100, 40, 0, 0), press(0, 1000, 40000, 10000), slices.Repeat(strokes(up(0, 10000)), 4), api.ErrRange},
	}
}

// P6.2, example 4
func TestErrorsOfStrokes(t *testing.T) {
	for _, x := range slices.Concat(badPlans(), farPlans()) {
		s, e := distort.After(x.s, x.p, x.plan)
		want(t, "After", s, e, none(), x.e)
	}
}

// P6.8: the order does not matter; a stroke upward and one downward undo each other
func TestOrderOfStrokes(t *testing.T) {
	shafts(1000, func(random *rand.Rand, s api.DistortShaft) {
		if len(s.Joints) == 0 {
			return
		}
		p := press(between(random, 0, 9), between(random, 0, 1000), 40000, 3, 7, 19)
		var plan []api.DistortStroke
		for range random.Intn(3) {
			plan = append(plan, api.DistortStroke{Joint: random.Intn(len(s.Joints)), Amount: p.Amounts[random.Intn(3)], Up: random.Intn(2) == 0})
		}
		x, e := distort.After(s, p, plan)
		there, back := down(random.Intn(len(s.Joints)), 19), up(0, 19)
		back.Joint = there.Joint
		longer := append(slices.Clone(plan), back, there)
		random.Shuffle(len(longer), func(i, j int) { longer[i], longer[j] = longer[j], longer[i] })
		y, f := distort.After(s, p, longer)
		want(t, "After", y, f, x, e)
		random.Shuffle(len(plan), func(i, j int) { plan[i], plan[j] = plan[j], plan[i] })
		y, f = distort.After(s, p, plan)
		want(t, "After", y, f, x, e)
	})
}
