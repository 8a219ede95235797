package inspect_test

import (
	"math"
	"math/big"
	"math/rand"
	"slices"
	"testing"

	"martensite/api"
	"martensite/inspect"
)

// badTraverse is a traverse with an error, and its index.
type badTraverse struct {
	t     api.InspectTraverse
	index int
	e     api.Errno
}

// badTraverses are traverses with errors.
func badTraverses() []badTraverse {
	l := []badTraverse{
		{traverse(), 0, api.ErrShape},
		{traverse(50, 10, 700, 720), 0, api.ErrShape},
		{traverse(0, 0, -1, -2), 0, api.ErrShape},
		{api.InspectTraverse{Indents: make([]api.InspectIndent, 21)}, 0, api.ErrLarge},
		{traverse(50, 10, 2, 1, 0, 0, 0, 0), 0, api.ErrOrder},
		{traverse(24, 10, 2, 1, 100, 1, 1, 1), 0, api.ErrOrder},
		{traverse(24, 10, 2, 2001, 100, 1, 1, 1), 0, api.ErrRange},
		{traverse(24, 10, 1, 1, 100, 1, 1, 1), 0, api.ErrBusy},
		{traverse(24, 10, 1, 1, 100, 1, 2, 1), 0, api.ErrBusy},
		{traverse(2, 1, 1, 1, 100, 1, 1, 1), 0, api.ErrBusy},
		{traverse(27, 11, 1, 1, 100, 1, 1, 1), 0, api.ErrBusy},
		{traverse(25, 10, 1, 1, 54, 10, 1, 1), 1, api.ErrBusy},
		{traverse(25, 10, 1, 1, 54, 1, 1, 1), 1, api.ErrBusy},
		{traverse(25, 1, 1, 1, 54, 10, 1, 1), 1, api.ErrBusy},
		{traverse(25, 10, 1, 1, 54, 10, 2, 1), 1, api.ErrOrder},
		{traverse(25, 10, 1, 1, 25, 1, 1, 1), 1, api.ErrBusy},
		{traverse(9000, 10, 1, 1, 5000, 10, 1, 1), 1, api.ErrBusy},
		{traverse(25, 10, 1, 1, 55, 10, 1, 1, 84, 10, 1, 1), 2, api.ErrBusy},
		{traverse(25, 10, 1, 1, 55, 10, 1, 1, 85, 10, 3, 2, 85, 10, -1, 1), 2, api.ErrOrder},
		{traverse(10000, 10000, 1, 1, 1, 1, 1, 1), 0, api.ErrBusy},
	}
	for _, n := range []int{-1, 0, 10001, math.MinInt, math.MaxInt} {
		l = append(l,
			badTraverse{traverse(n, 10, 1, 1, 100, 12, 1, 1), 0, api.ErrRange},
			badTraverse{traverse(50, n, 2, 1, 100, 12, 1, 1), 0, api.ErrRange},
			badTraverse{traverse(50, 10, 1, 1, n, 12, 2, 1), 1, api.ErrRange},
			badTraverse{traverse(50, 10, 1, 1, 51, n, 1, 1), 1, api.ErrRange})
	}
	for _, n := range []int{-1, 2001, math.MinInt, math.MaxInt} {
		l = append(l,
			badTraverse{traverse(50, 10, n, 1, 100, 12, 1, 1), 0, api.ErrRange},
			badTraverse{traverse(50, 10, 1, n, 100, 12, 1, 1), 0, api.ErrRange},
			badTraverse{traverse(50, 10, 1, 1, 100, 12, n, 1), 1, api.ErrRange},
			badTraverse{traverse(50, 10, 1, 1, 51, 12, 1, n), 1, api.ErrRange})
	}
	return l
}

// goodTraverses are traverses without errors.
func goodTraverses() []api.InspectTraverse {
	longest := traverse()
	for i := range 20 {
		longest.Indents = append(longest.Indents, api.InspectIndent{Depth: 10000 - 3*(19-i), Diagonal: 1, Hardness: span(0, 2000)})
	}
	return []api.InspectTraverse{
		exampleTraverse(),
		longest,
		traverse(25, 10, 1, 1, 55, 10, 1, 1),
		traverse(25, 10, 1, 1, 55, 1, 1, 1),
		traverse(25, 1, 1, 1, 55, 10, 1, 1),
		traverse(3, 1, 0, 2000, 6, 1, 0, 0),
		traverse(28, 11, 2000, 2000, 61, 11, 0, 2000),
		traverse(1000, 400, 5, 5, 10000, 3000, 5, 6),
	}
}

// P8.1: the errors of traverses, and that apart indents are none
func TestCheckTraverse(t *testing.T) {
	for _, x := range badTraverses() {
		i, e := inspect.CheckTraverse(x.t)
		want(t, "CheckTraverse", i, e, x.index, x.e)
	}
	for _, x := range goodTraverses() {
		i, e := inspect.CheckTraverse(x)
		want(t, "CheckTraverse", i, e, 0, api.OK)
	}
	traverses(300, func(_ *rand.Rand, x api.InspectTraverse) {
		i, e := inspect.CheckTraverse(x)
		want(t, "CheckTraverse", i, e, 0, api.OK)
	})
}

// P8.1, P8.2: the error of the traverse comes before all later ones
func TestErrorsOfTraverses(t *testing.T) {
	for _, x := range badTraverses() {
		s, e := inspect.HardnessAt(x.t, -1)
		want(t, "HardnessAt", s, e, api.Span{}, x.e)
		s, e = inspect.CaseOf(x.t, -1)
		want(t, "CaseOf", s, e, api.Span{}, x.e)
		y, i, e := inspect.ConvertedTraverse(table(1990, 1, 1, 2000, 1, 1), x.t)
		want(t, "ConvertedTraverse", y, e, noTraverse(), x.e)
		want(t, "ConvertedTraverse", i, e, 0, x.e)
		y, i, e = inspect.ConvertedTraverse(table(1, 1, 1, 1, 1, 1), x.t)
		want(t, "ConvertedTraverse", y, e, noTraverse(), api.ErrOrder)
		want(t, "ConvertedTraverse", i, e, 0, api.ErrOrder)
	}
}

// P8.1, example 1
func TestHardnessAt(t *testing.T) {
	for _, x := range []struct {
		depth int
		s     api.Span
		e     api.Errno
	}{
		{75, between(whole(650), whole(670)), api.OK},
		{50, between(whole(700), whole(720)), api.OK},
		{100, between(whole(600), whole(620)), api.OK},
		{101, between(whole(596), whole(616)), api.OK},
		{150, between(whole(400), whole(420)), api.OK},
		{49, api.Span{}, api.ErrRange},
		{151, api.Span{}, api.ErrRange},
		{0, api.Span{}, api.ErrRange},
		{math.MinInt, api.Span{}, api.ErrRange},
		{math.MaxInt, api.Span{}, api.ErrRange},
	} {
		s, e := inspect.HardnessAt(exampleTraverse(), x.depth)
		want(t, "HardnessAt", s, e, x.s, x.e)
	}
	s, e := inspect.HardnessAt(traverse(3, 1, 1, 7, 9, 1, 5, 8), 4)
	want(t, "HardnessAt", s, e, between(frac(5, 3), frac(43, 6)), api.OK)
	s, e = inspect.HardnessAt(traverse(3, 1, 0, 0, 10000, 1, 0, 2000), 10)
	want(t, "HardnessAt", s, e, between(whole(0), frac(14000, 9997)), api.OK)
}

// curves are the depths of a traverse, and the numbers of its lower and its upper curve there.
func curves(t api.InspectTraverse) (depths, lower, upper []int) {
	for _, x := range t.Indents {
		depths, lower, upper = append(depths, x.Depth), append(lower, x.Hardness.Lo), append(upper, x.Hardness.Hi)
	}
	return depths, lower, upper
}

// P8.1: both curves at all depths, by the definition
func TestHardnessByDefinition(t *testing.T) {
	traverses(150, func(_ *rand.Rand, x api.InspectTraverse) {
		depths, lower, upper := curves(x)
		for depth := depths[0]; depth <= depths[len(depths)-1]; depth++ {
			wanted := between(lowest(straight(depths, lower, depth)), lowest(straight(depths, upper, depth)))
			s, e := inspect.HardnessAt(x, depth)
			if s != wanted || e != api.OK {
				t.Fatalf("HardnessAt %v, %d: %v, %d, want %v", x, depth, s, e, wanted)
			}
		}
	})
}

// P8.1, example 2 and edge cases
func TestCaseOf(t *testing.T) {
	touching := traverse(50, 10, 700, 720, 100, 10, 500, 520, 150, 10, 600, 620, 200, 10, 400, 450)
	for _, x := range []struct {
		t     api.InspectTraverse
		limit int
		s     api.Span
		e     api.Errno
	}{
		{exampleTraverse(), 550, between(frac(225, 2), frac(235, 2)), api.OK},
		{exampleTraverse(), 710, between(whole(50), whole(55)), api.OK},
		{exampleTraverse(), 720, between(whole(50), whole(50)), api.OK},
		{exampleTraverse(), 700, between(whole(50), whole(60)), api.OK},
		{exampleTraverse(), 600, between(whole(100), whole(105)), api.OK},
		{exampleTraverse(), 421, between(frac(579, 4), frac(599, 4)), api.OK},
		{exampleTraverse(), 420, api.Span{}, api.ErrOpen},
		{exampleTraverse(), 400, api.Span{}, api.ErrOpen},
		{exampleTraverse(), 300, api.Span{}, api.ErrOpen},
		{exampleTraverse(), 0, api.Span{}, api.ErrOpen},
		{exampleTraverse(), 721, api.Span{}, api.ErrNone},
		{exampleTraverse(), 730, api.Span{}, api.ErrNone},
		{exampleTraverse(), 2000, api.Span{}, api.ErrNone},
		{exampleTraverse(), -1, api.Span{}, api.ErrRange},
		{exampleTraverse(), 2001, api.Span{}, api.ErrRange},
		{exampleTraverse(), math.MinInt, api.Span{}, api.ErrRange},
		{exampleTraverse(), math.MaxInt, api.Span{}, api.ErrRange},
		// The lower curve touches 500 and rises, the upper one touches 520 and rises.
		{touching, 500, between(whole(175), frac(3150, 17)), api.OK},
		{touching, 520, between(whole(95), frac(3050, 17)), api.OK},
		{touching, 521, between(frac(379, 4), frac(399, 4)), api.OK},
		// The curves are at the limit for a while before they fall.
		{traverse(50, 10, 600, 600, 100, 10, 550, 550, 150, 10, 550, 550, 200, 10, 500, 500), 550, between(whole(150), whole(150)), api.OK},
		// Only the lower curve falls.
		{traverse(50, 10, 600, 700, 100, 10, 400, 700), 500, api.Span{}, api.ErrOpen},
		// The lower curve is below the limit at once, the upper one never is.
		{traverse(50, 10, 400, 700, 100, 10, 400, 700), 500, api.Span{}, api.ErrOpen},
		// Both curves are above the limit only later.
		{traverse(50, 10, 400, 450, 100, 10, 600, 700), 500, api.Span{}, api.ErrNone},
		{traverse(3, 1, 2000, 2000, 10000, 1, 0, 0), 1, between(frac(19990003, 2000), frac(19990003, 2000)), api.OK},
	} {
		s, e := inspect.CaseOf(x.t, x.limit)
		want(t, "CaseOf", s, e, x.s, x.e)
	}
}

// fallsAt is whether a curve falls below a limit at a depth: it is not below it up to there, and below it just after.
func fallsAt(depths, numbers []int, limit int, depth *big.Rat) bool {
	if numbers[0] < limit {
		return depth.Cmp(rational(depths[0], 1)) == 0
	}
	for i := range depths {
		before := rational(depths[i], 1).Cmp(depth) <= 0
		if before && numbers[i] < limit {
			return false
		}
		if !before {
			part := new(big.Rat).Sub(depth, rational(depths[i-1], 1))
			part.Quo(part, rational(depths[i]-depths[i-1], 1))
			part.Mul(part, rational(numbers[i]-numbers[i-1], 1))
			part.Add(part, rational(numbers[i-1], 1))
			return part.Cmp(rational(limit, 1)) == 0 && numbers[i] < limit
		}
	}
	return false
}

// P8.1: case depths of all limits, by the definition
func TestCasesByDefinition(t *testing.T) {
	found := map[api.Errno]int{}
	traverses(400, func(random *rand.Rand, x api.InspectTraverse) {
		depths, lower, upper := curves(x)
		limits := append([]int{0, 1, 2, 3, random.Intn(50), random.Intn(2001)}, append(lower, upper...)...)
		for _, limit := range limits {
			wanted := api.OK
			if upper[0] < limit {
				wanted = api.ErrNone
			} else if slices.Min(upper) >= limit {
				wanted = api.ErrOpen
			}
			s, e := inspect.CaseOf(x, limit)
			found[e]++
			if e != wanted || e != api.OK && s != (api.Span{}) {
				t.Fatalf("CaseOf %v, %d: %v, %d, want %d", x, limit, s, e, wanted)
			}
			if e == api.OK && (!fallsAt(depths, lower, limit, exact(s.Lo)) || !fallsAt(depths, upper, limit, exact(s.Hi))) {
				t.Fatalf("CaseOf %v, %d: %v", x, limit, s)
			}
			if e == api.OK && (s.Lo != lowest(exact(s.Lo)) || s.Hi != lowest(exact(s.Hi))) {
				t.Fatalf("CaseOf %v, %d: %v is not in lowest terms", x, limit, s)
			}
		}
	})
	if found[api.OK] < 500 || found[api.ErrNone] < 100 || found[api.ErrOpen] < 100 {
		t.Errorf("too few cases: %v", found)
	}
}

// inside is a traverse with one hardness at each indent, which is in the range there.
func inside(random *rand.Rand, t api.InspectTraverse) api.InspectTraverse {
	var made api.InspectTraverse
	for _, x := range t.Indents {
		n := someNumber(random, x.Hardness.Lo, x.Hardness.Hi)
		x.Hardness = span(n, n)
		made.Indents = append(made.Indents, x)
	}
	return made
}

// wider is a traverse with ranges that contain those of another one.
func wider(random *rand.Rand, t api.InspectTraverse) api.InspectTraverse {
	var made api.InspectTraverse
	for _, x := range t.Indents {
		x.Hardness = span(someNumber(random, 0, x.Hardness.Lo), someNumber(random, x.Hardness.Hi, api.MaxInspectHardness))
		made.Indents = append(made.Indents, x)
	}
	return made
}

// encloses is whether a span contains another one.
func encloses(a, b api.Span) bool { return compared(a.Lo, b.Lo) <= 0 && compared(a.Hi, b.Hi) >= 0 }

// P8.8: enclosed, also by wider ranges
func TestEnclosedCases(t *testing.T) {
	both := 0
	traverses(2000, func(random *rand.Rand, x api.InspectTraverse) {
		y := inside(random, x)
		z := wider(random, x)
		for _, limit := range []int{1, 2, 3, random.Intn(50), random.Intn(2001), x.Indents[0].Hardness.Lo} {
			s, e := inspect.CaseOf(x, limit)
			if e != api.OK {
				continue
			}
			if inner, e := inspect.CaseOf(y, limit); e == api.OK {
				both++
				if !encloses(s, inner) {
					t.Errorf("CaseOf %v, %d: %v, inside %v", x, limit, s, inner)
				}
			}
			if outer, e := inspect.CaseOf(z, limit); e == api.OK {
				both++
				if !encloses(outer, s) {
					t.Errorf("CaseOf %v, %d: %v, outside %v", x, limit, s, outer)
				}
			}
		}
	})
	if both < 500 {
		t.Errorf("too few case depths: %d", both)
	}
}

// P8.8: a greater limit has no greater case depth
func TestGreaterLimits(t *testing.T) {
	traverses(60, func(_ *rand.Rand, x api.InspectTraverse) {
		var last api.Span
		known := false
		for limit := range api.MaxInspectHardness + 1 {
			s, e := inspect.CaseOf(x, limit)
			if e != api.OK {
				continue
			}
			if known && (compared(s.Lo, last.Lo) > 0 || compared(s.Hi, last.Hi) > 0) {
				t.Fatalf("CaseOf %v, %d: %v after %v", x, limit, s, last)
			}
			last, known = s, true
		}
	})
}
