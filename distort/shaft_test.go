package distort_test

import (
	"math"
	"math/big"
	"math/rand"
	"slices"
	"testing"

	"martensite/api"
	"martensite/distort"
)

// badShaft is a shaft with an error, and its index.
type badShaft struct {
	s     api.DistortShaft
	index int
	e     api.Errno
}

// badShafts are shafts with errors.
func badShafts() []badShaft {
	five := shaft(100, 1, 0, 0, 2, 0, 0, 3, 0, 0, 4, 0, 0, 5, 0, 0)
	l := []badShaft{
		{five, 0, api.ErrLarge},
		{api.DistortShaft{Length: 100, Joints: []int{0, 0, 0, 0, 0}}, 0, api.ErrLarge},
		{api.DistortShaft{Length: 100, Joints: []int{0, 200}, Kinks: []api.Range{span(9, 1)}}, 0, api.ErrShape},
		{api.DistortShaft{Length: 100, Joints: []int{40}}, 0, api.ErrShape},
		{api.DistortShaft{Length: 100, Kinks: []api.Range{one(1)}}, 0, api.ErrShape},
		{api.DistortShaft{Length: 100, Joints: []int{40}, Kinks: make([]api.Range, 5)}, 0, api.ErrShape},
		{shaft(100, 0, 0, 0), 0, api.ErrRange},
		{shaft(100, 100, 0, 0), 0, api.ErrRange},
		{shaft(100, -1, 0, 0, 0, 0, 0), 0, api.ErrRange},
		{shaft(100, 50, 0, 0, 100, 2, 1), 1, api.ErrRange},
		{shaft(100, 50, 0, 0, 0, 0, 0), 1, api.ErrRange},
		{shaft(1, 1, 0, 0), 0, api.ErrRange},
		{shaft(1, 0, 0, 0), 0, api.ErrRange},
		{shaft(100, 50, 0, 0, math.MaxInt, 0, 0), 1, api.ErrRange},
		{shaft(100, math.MinInt, 0, 0), 0, api.ErrRange},
		{shaft(100, 50, 0, 0, 50, 200000, 0), 1, api.ErrOrder},
		{shaft(100, 40, 0, 0, 60, 0, 0, 59, 0, 0, 0, 0, 0), 2, api.ErrOrder},
		{shaft(100, 40, 100001, 100001), 0, api.ErrRange},
		{shaft(100, 40, -100001, 0), 0, api.ErrRange},
		{shaft(100, 40, 0, 100001), 0, api.ErrRange},
		{shaft(100, 40, 0, 0, 60, 100001, 0), 1, api.ErrRange},
		{shaft(100, 40, 0, -100001), 0, api.ErrRange},
		{shaft(100, 40, math.MinInt, math.MaxInt), 0, api.ErrRange},
		{shaft(100, 40, math.MaxInt, math.MinInt), 0, api.ErrRange},
		{shaft(100, 40, 1, 0, 0, 0, 0), 0, api.ErrOrder},
		{shaft(100, 10, 0, 0, 20, 0, 0, 30, 0, 0, 40, -5, -6), 3, api.ErrOrder},
		// Each joint is checked for all of its errors.
		{shaft(100, 40, 5, 4, 200, 0, 0), 0, api.ErrOrder},
		{shaft(100, 40, 0, 0, 30, 0, 0, 200, 0, 0), 1, api.ErrOrder},
	}
	for _, length := range []int{0, -1, 10001, math.MinInt, math.MaxInt} {
		long := five
		long.Length = length
		l = append(l, badShaft{long, 0, api.ErrRange}, badShaft{shaft(length), 0, api.ErrRange})
	}
	return l
}

// goodShafts are shafts at the limits.
func goodShafts() []api.DistortShaft {
	return []api.DistortShaft{
		example(), exampleTwo(), shaft(1), shaft(2, 1, -100000, 100000), shaft(10000),
		shaft(10000, 1, 0, 0, 2, 0, 0, 9998, -100000, -100000, 9999, 100000, 100000),
		{Length: 5, Joints: []int{}, Kinks: []api.Range{}},
	}
}

// P6.1
func TestCheckShaft(t *testing.T) {
	for _, x := range badShafts() {
		i, e := distort.CheckShaft(x.s)
		want(t, "CheckShaft", i, e, x.index, x.e)
	}
	for _, s := range goodShafts() {
		i, e := distort.CheckShaft(s)
		want(t, "CheckShaft", i, e, 0, api.OK)
	}
}

// P6.1 to P6.3: the error of the shaft comes first
func TestErrorsOfShafts(t *testing.T) {
	bad := press(-1, 0, 0)
	for _, x := range badShafts() {
		r, e := distort.DeflectionAt(x.s, -1)
		want(t, "DeflectionAt", r, e, api.Range{}, x.e)
		l, e := distort.DeflectionsOf(x.s)
		want(t, "DeflectionsOf", l, e, []api.Range{}, x.e)
		n, e := distort.IsStraight(x.s, -1)
		want(t, "IsStraight", n, e, 0, x.e)
		s, e := distort.Relieved(x.s, span(2, -1))
		want(t, "Relieved", s, e, none(), x.e)
		s, e = distort.After(x.s, bad, nil)
		want(t, "After", s, e, none(), x.e)
		n, e = distort.CheckPlan(x.s, bad, api.DistortPlan{Tolerance: -1})
		want(t, "CheckPlan", n, e, 0, x.e)
		plan, e := distort.FewestOf(x.s, bad, -1)
		want(t, "FewestOf", plan, e, strokes(), x.e)
		n, i, e := distort.BoundOf(x.s, bad, -1)
		want(t, "BoundOf", []int{n, i}, e, []int{0, 0}, x.e)
	}
}

// P6.1, examples 1 and 2, edge case of a position beyond all joints
func TestDeflections(t *testing.T) {
	for _, x := range []struct {
		s        api.DistortShaft
		position int
		r        api.Range
	}{
		{example(), 40, span(240, 288)},
		{example(), 70, span(120, 144)},
		{example(), 20, span(120, 144)},
		{example(), 0, one(0)},
		{example(), 100, one(0)},
		{exampleTwo(), 40, span(200, 248)},
		{exampleTwo(), 80, span(0, 16)},
		{exampleTwo(), 90, span(0, 8)},
		{shaft(7), 3, one(0)},
		// Lower ends are rounded down, upper ends up, also below 0.
		{shaft(3, 1, 1, 1), 1, span(0, 1)},
		{shaft(3, 1, -1, -1), 1, span(-1, 0)},
		{shaft(3, 1, -2, 2), 1, span(-2, 2)},
		{shaft(3, 1, 3, 3), 2, one(1)},
		// The sum is rounded, not what each joint adds to it.
		{shaft(3, 1, 1, 1, 2, 1, 1), 1, one(1)},
		{shaft(10000, 5000, -100000, 100000), 5000, span(-250000000, 250000000)},
	} {
		r, e := distort.DeflectionAt(x.s, x.position)
		want(t, "DeflectionAt", r, e, x.r, api.OK)
	}
	l, e := distort.DeflectionsOf(exampleTwo())
	want(t, "DeflectionsOf", l, e, []api.Range{span(200, 248), span(0, 16)}, api.OK)
	l, e = distort.DeflectionsOf(shaft(100))
	want(t, "DeflectionsOf without joints", l, e, []api.Range{}, api.OK)
}

// P6.1
func TestErrorsOfPositions(t *testing.T) {
	for _, position := range []int{-1, 101, math.MinInt, math.MaxInt} {
		r, e := distort.DeflectionAt(example(), position)
		want(t, "DeflectionAt", r, e, api.Range{}, api.ErrRange)
	}
}

// P6.1, P6.7: by the line that is bent at each joint
func TestDeflectionsByLines(t *testing.T) {
	shafts(1500, func(random *rand.Rand, s api.DistortShaft) {
		p := between(random, 0, s.Length)
		r, e := distort.DeflectionAt(s, p)
		want(t, "DeflectionAt", r, e, heights(s, p), api.OK)
		var l []api.Range
		for _, at := range s.Joints {
			l = append(l, heights(s, at))
		}
		all, e := distort.DeflectionsOf(s)
		want(t, "DeflectionsOf", all, e, l, api.OK)
		for _, support := range []int{0, s.Length} {
			r, e := distort.DeflectionAt(s, support)
			want(t, "DeflectionAt a support", r, e, one(0), api.OK)
		}
		var kinks []int
		for _, k := range s.Kinks {
			kinks = append(kinks, between(random, k.Lo, k.Hi))
		}
		exact := lineAt(s, kinks, p)
		if exact.Cmp(rational(r.Lo, 1)) < 0 || exact.Cmp(rational(r.Hi, 1)) > 0 {
			t.Errorf("%v at %d with %v: %v is not in %v", s, p, kinks, exact, r)
		}
	})
}

// P6.7: equal kinks at two joints give each other the same deflection
func TestInfluencesOfEachOther(t *testing.T) {
	random := rand.New(rand.NewSource(7))
	for range 500 {
		length := between(random, 3, api.MaxDistortLength)
		a, b := between(random, 1, length-1), between(random, 1, length-1)
		k := someRange(random, -api.MaxDistortKink, api.MaxDistortKink)
		x, e := distort.DeflectionAt(shaft(length, a, k.Lo, k.Hi), b)
		y, f := distort.DeflectionAt(shaft(length, b, k.Lo, k.Hi), a)
		want(t, "DeflectionAt", x, e, y, f)
	}
}

// P6.1, example 1 and edge cases
func TestIsStraight(t *testing.T) {
	for _, x := range []struct {
		s                 api.DistortShaft
		tolerance, answer int
	}{
		{example(), 100, api.AnswerNo},
		{example(), 239, api.AnswerNo},
		{example(), 240, api.AnswerMaybe},
		{example(), 250, api.AnswerMaybe},
		{example(), 287, api.AnswerMaybe},
		{example(), 288, api.AnswerYes},
		{example(), 1000000000000, api.AnswerYes},
		{shaft(100, 40, -12, -10), 239, api.AnswerNo},
		{shaft(100, 40, -12, -10), 240, api.AnswerMaybe},
		{shaft(100, 40, -12, -10), 287, api.AnswerMaybe},
		{shaft(100, 40, -12, -10), 288, api.AnswerYes},
		{shaft(100, 40, -1, 2), 0, api.AnswerMaybe},
		{shaft(100, 40, -1, 2), 24, api.AnswerMaybe},
		{shaft(100, 40, -1, 2), 48, api.AnswerYes},
		{shaft(100, 40, -2, 1), 24, api.AnswerMaybe},
		// One joint may be straight while another one is not.
		{exampleTwo(), 199, api.AnswerNo},
		{exampleTwo(), 200, api.AnswerMaybe},
		{exampleTwo(), 248, api.AnswerYes},
		{shaft(100, 20, -5, -5, 60, 10, 12), 100, api.AnswerNo},
		// The first joint is in doubt, and the second one is surely not straight.
		{shaft(100, 20, -20, 0, 60, 10, 12), 79, api.AnswerNo},
		{shaft(100, 20, -20, 0, 60, 10, 12), 80, api.AnswerMaybe},
		{shaft(100, 40, 0, 0, 80, 0, 0), 0, api.AnswerYes},
		{shaft(3, 1, 1, 1), 0, api.AnswerMaybe},
		{shaft(100), 0, api.AnswerYes},
	} {
		n, e := distort.IsStraight(x.s, x.tolerance)
		want(t, "IsStraight", n, e, x.answer, api.OK)
	}
	for _, tolerance := range []int{-1, 1000000000001, math.MinInt, math.MaxInt} {
		n, e := distort.IsStraight(example(), tolerance)
		want(t, "IsStraight", n, e, 0, api.ErrRange)
	}
}

// P6.1: by the definition
func TestStraightByRanges(t *testing.T) {
	found := map[int]int{}
	shafts(2000, func(random *rand.Rand, s api.DistortShaft) {
		tolerance := 0
		for _, at := range s.Joints {
			r := heights(s, at)
			tolerance = max(tolerance, []int{r.Lo, r.Hi, -r.Lo, -r.Hi, r.Hi - 1, 1 - r.Hi, r.Lo - 1}[random.Intn(7)])
		}
		lies, apart := true, false
		for _, at := range s.Joints {
			r := heights(s, at)
			lies = lies && -tolerance <= r.Lo && r.Hi <= tolerance
			apart = apart || max(r.Lo, -tolerance) > min(r.Hi, tolerance)
		}
		answer := api.AnswerMaybe
		if lies {
			answer = api.AnswerYes
		} else if apart {
			answer = api.AnswerNo
		}
		n, e := distort.IsStraight(s, tolerance)
		want(t, "IsStraight", n, e, answer, api.OK)
		found[n]++
	})
	if found[api.AnswerNo] < 100 || found[api.AnswerMaybe] < 100 || found[api.AnswerYes] < 100 {
		t.Errorf("too few shafts: %v", found)
	}
}

// P6.1, example 6
func TestRelieved(t *testing.T) {
	for _, x := range []struct{ kink, parts, after api.Range }{
		{span(10, 12), span(100, 300), span(7, 11)},
		{span(-12, -10), span(100, 300), span(-11, -7)},
		{span(-12, 10), span(100, 300), span(-11, 9)},
		{span(-10, 12), span(0, 1000), span(-10, 12)},
		{span(10, 12), span(0, 1000), span(0, 12)},
		{span(-12, -10), span(0, 1000), span(-12, 0)},
		{span(10, 12), one(0), span(10, 12)},
		{span(10, 12), one(1000), one(0)},
		{span(-12, -10), one(1000), one(0)},
		{span(10, 12), one(500), span(5, 6)},
		{span(11, 11), one(500), span(5, 6)},
		{span(-11, -11), one(500), span(-6, -5)},
		{one(1), one(999), span(0, 1)},
		{one(-1), one(1), span(-1, 0)},
		{span(-100000, 100000), span(1, 999), span(-99900, 99900)},
		{one(0), span(0, 1000), one(0)},
	} {
		s, e := distort.Relieved(shaft(100, 40, x.kink.Lo, x.kink.Hi, 70, 3, 4), x.parts)
		if len(s.Kinks) != 2 || s.Kinks[0] != x.after || s.Length != 100 || !slices.Equal(s.Joints, []int{40, 70}) || e != api.OK {
			t.Errorf("%v relieved by %v: %+v, %d, want %v", x.kink, x.parts, s, e, x.after)
		}
	}
	s, e := distort.Relieved(shaft(100), span(100, 300))
	want(t, "Relieved without joints", s, e, shaft(100), api.OK)
}

// P6.1
func TestErrorsOfParts(t *testing.T) {
	for parts, f := range map[api.Range]api.Errno{
		span(-1, 5):                       api.ErrRange,
		span(0, 1001):                     api.ErrRange,
		span(1001, 5):                     api.ErrRange,
		span(5, -1):                       api.ErrRange,
		span(math.MinInt, math.MaxInt):    api.ErrRange,
		span(math.MaxInt, math.MinInt):    api.ErrRange,
		span(6, 5):                        api.ErrOrder,
		span(1000, 0):                     api.ErrOrder,
		span(api.MaxDistortParts, 1000-1): api.ErrOrder,
	} {
		s, e := distort.Relieved(example(), parts)
		want(t, "Relieved", s, e, none(), f)
	}
}

// P6.1, P6.10: by exact fractions, and between 0 and the ends before
func TestRelievedByFractions(t *testing.T) {
	shafts(1000, func(random *rand.Rand, s api.DistortShaft) {
		parts := someRange(random, 0, api.MaxDistortParts)
		x, e := distort.Relieved(s, parts)
		var l []api.Range
		for i, k := range s.Kinks {
			var least, most *big.Rat
			for _, n := range []int{k.Lo, k.Hi} {
				for _, part := range []int{parts.Lo, parts.Hi} {
					left := new(big.Rat).Mul(rational(n, 1), new(big.Rat).Sub(rational(1, 1), rational(part, 1000)))
					if least == nil || left.Cmp(least) < 0 {
						least = left
					}
					if most == nil || left.Cmp(most) > 0 {
						most = left
					}
				}
			}
			l = append(l, span(floorOf(least), ceilingOf(most)))
			if i < len(x.Kinks) && (x.Kinks[i].Lo < min(k.Lo, 0) || x.Kinks[i].Hi > max(k.Hi, 0)) {
				t.Errorf("%v relieved by %v: %v", k, parts, x.Kinks[i])
			}
		}
		want(t, "Relieved", x, e, api.DistortShaft{Length: s.Length, Joints: s.Joints, Kinks: l}, api.OK)
		x, e = distort.Relieved(s, one(0))
		want(t, "Relieved by nothing", x, e, s, api.OK)
		x, e = distort.Relieved(s, one(1000))
		want(t, "Relieved by all", x, e, api.DistortShaft{Length: s.Length, Joints: s.Joints, Kinks: make([]api.Range, len(s.Kinks))}, api.OK)
	})
}

// R3: results share no memory with arguments, which are not modified
func TestShaftsShareNothing(t *testing.T) {
	s, p := exampleTwo(), examplePress()
	x, _ := distort.Relieved(s, span(0, 0))
	x.Joints[0], x.Kinks[0].Lo = 1, 1
	y, _ := distort.After(s, p, nil)
	y.Joints[1], y.Kinks[1].Hi = 99, 99
	plan := strokes(down(0, 5), up(1, 8))
	z, _ := distort.After(s, p, plan)
	z.Joints[0], z.Kinks[0].Lo = 1, 1
	want(t, "the shaft", s, api.OK, exampleTwo(), api.OK)
	want(t, "the press", p, api.OK, examplePress(), api.OK)
	want(t, "the strokes", plan, api.OK, strokes(down(0, 5), up(1, 8)), api.OK)
}
