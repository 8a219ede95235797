package distort_test

import (
	"cmp"
	"math"
	"math/rand"
	"slices"
	"testing"

	"martensite/api"
	"martensite/distort"
)

// ordered compares two strokes by their order.
func ordered(a, b api.DistortStroke) int {
	way := func(x api.DistortStroke) int {
		if x.Up {
			return 1
		}
		return 0
	}
	return cmp.Or(cmp.Compare(a.Joint, b.Joint), cmp.Compare(a.Amount, b.Amount), cmp.Compare(way(a), way(b)))
}

// numerators are the deflections, times Length, that kinks of 1 at all joints give each other.
func numerators(s api.DistortShaft) [][]int {
	var rows [][]int
	for _, at := range s.Joints {
		var row []int
		for j := range s.Joints {
			kinks := make([]int, len(s.Joints))
			kinks[j] = s.Length
			row = append(row, floorOf(lineAt(s, kinks, at)))
		}
		rows = append(rows, row)
	}
	return rows
}

// trial is what is needed for trying plans.
type trial struct {
	s         api.DistortShaft
	p         api.DistortPress
	tolerance int
	rows      [][]int
}

// accepts is whether a plan is permitted, leaves no kink too great, and makes the shaft straight.
func (x trial) accepts(plan []api.DistortStroke) bool {
	amounts, bent := make([]int, len(x.s.Joints)), make([]int, len(x.s.Joints))
	for _, stroke := range plan {
		amounts[stroke.Joint] += stroke.Amount
		kink := 0
		if stroke.Amount > x.p.Spring {
			kink = x.p.Gain * (stroke.Amount - x.p.Spring)
		}
		if stroke.Up {
			kink = -kink
		}
		bent[stroke.Joint] += kink
	}
	for i, k := range x.s.Kinks {
		if amounts[i] > x.p.Limit || k.Lo+bent[i] < -api.MaxDistortKink || k.Hi+bent[i] > api.MaxDistortKink {
			return false
		}
	}
	for _, row := range x.rows {
		lo, hi := 0, 0
		for j, n := range row {
			lo += n * (x.s.Kinks[j].Lo + bent[j])
			hi += n * (x.s.Kinks[j].Hi + bent[j])
		}
		// A number rounded down is at least a whole one if it is so itself.
		if lo < -x.tolerance*x.s.Length || hi > x.tolerance*x.s.Length {
			return false
		}
	}
	return true
}

// plans calls a function with all ascending plans of a size, in their order, until it returns false.
func (x trial) plans(size int, do func([]api.DistortStroke) bool) {
	var all []api.DistortStroke
	for j := range x.s.Joints {
		for _, amount := range x.p.Amounts {
			all = append(all, down(j, amount), up(j, amount))
		}
	}
	slices.SortFunc(all, ordered)
	count := 1
	for range size {
		count *= len(all)
	}
	for number := range count {
		plan := make([]api.DistortStroke, size)
		for i, n := size-1, number; i >= 0; i, n = i-1, n/len(all) {
			plan[i] = all[n%len(all)]
		}
		if slices.IsSortedFunc(plan, ordered) && !do(plan) {
			return
		}
	}
}

// fewest are the fewest strokes, found by trying all plans.
func (x trial) fewest() ([]api.DistortStroke, api.Errno) {
	for size := range api.MaxDistortStrokes + 1 {
		var best []api.DistortStroke
		found := false
		x.plans(size, func(plan []api.DistortStroke) bool {
			best, found = plan, x.accepts(plan)
			return !found
		})
		if found {
			return best, api.OK
		}
	}
	return nil, api.ErrNone
}

// trials calls a function with random shafts that can often be made straight by a few strokes of a press.
func trials(count int, do func(*rand.Rand, trial)) {
	random := rand.New(rand.NewSource(11))
	for range count {
		most := []int{20, 20, 100, api.MaxDistortKink}[random.Intn(4)]
		s := someShaft(random, 2, most)
		for len(s.Joints) == 0 && random.Intn(10) > 0 {
			s = someShaft(random, 2, most)
		}
		amounts := []int{between(random, 1, 9)}
		if random.Intn(2) == 0 {
			amounts = append(amounts, amounts[0]+between(random, 1, 9))
		}
		p := press(between(random, 0, 5), between(random, 0, 3)*min(max(most/60, 1), api.MaxDistortGain/3), between(random, 0, 40), amounts...)
		tolerance := 0
		for i, at := range s.Joints {
			// Kinks are narrow, and the tolerance is not less than their width, so that there is a way to straighten many of them.
			s.Kinks[i].Hi = min(s.Kinks[i].Hi, s.Kinks[i].Lo+random.Intn(most/10+1))
			r := heights(s, at)
			tolerance = max(tolerance, random.Intn(max(r.Hi, -r.Lo, 0)/2+2), r.Hi-r.Lo)
		}
		do(random, trial{s, p, tolerance, numerators(s)})
	}
}

// P6.3, P6.9: by trying all plans; the bound is at most the number of strokes
func TestFewestByTrying(t *testing.T) {
	found := map[int]int{}
	trials(5000, func(_ *rand.Rand, x trial) {
		plan, e := distort.FewestOf(x.s, x.p, x.tolerance)
		best, f := x.fewest()
		want(t, "FewestOf", plan, e, best, f)
		bound, _, g := distort.BoundOf(x.s, x.p, x.tolerance)
		if f != api.OK {
			found[-1]++
			return
		}
		found[len(best)]++
		n, e := distort.CheckPlan(x.s, x.p, api.DistortPlan{Strokes: best, Tolerance: x.tolerance})
		want(t, "CheckPlan", n, e, len(best), api.OK)
		if g != api.OK || bound > len(best) {
			t.Errorf("the bound for %+v is %d, %d, but %v is accepted", x, bound, g, best)
		}
	})
	for size := -1; size <= api.MaxDistortStrokes; size++ {
		if found[size] < 20 {
			t.Errorf("too few plans of a size: %v", found)
		}
	}
}

// P6.3: any strokes, in any order
func TestCheckPlanByTrying(t *testing.T) {
	found := map[api.Errno]int{}
	trials(3000, func(random *rand.Rand, x trial) {
		var plan []api.DistortStroke
		for range random.Intn(api.MaxDistortStrokes+1) * min(len(x.s.Joints), 1) {
			plan = append(plan, api.DistortStroke{
				Joint: random.Intn(len(x.s.Joints)), Amount: x.p.Amounts[random.Intn(len(x.p.Amounts))], Up: random.Intn(2) == 0,
			})
		}
		n, e := distort.CheckPlan(x.s, x.p, api.DistortPlan{Strokes: plan, Tolerance: x.tolerance})
		if (e == api.OK) != x.accepts(plan) || e == api.OK && n != len(plan) || e != api.OK && n != 0 {
			t.Errorf("CheckPlan of %v for %+v: %d, %d", plan, x, n, e)
		}
		s, f := distort.After(x.s, x.p, plan)
		if f != api.OK || e == api.ErrProof {
			answer, _ := distort.IsStraight(s, x.tolerance)
			if f != api.OK && e != f || f == api.OK && answer == api.AnswerYes {
				t.Errorf("CheckPlan of %v for %+v: %d, after %d", plan, x, e, f)
			}
		}
		found[e]++
	})
	if found[api.OK] < 100 || found[api.ErrFull] < 100 || found[api.ErrProof] < 100 || found[api.ErrRange] < 10 {
		t.Errorf("too few plans: %v", found)
	}
}

// P6.3, examples 3 and 4
func TestCheckPlan(t *testing.T) {
	p := examplePress()
	for _, x := range []struct {
		s         api.DistortShaft
		plan      []api.DistortStroke
		tolerance int
		n         int
		e         api.Errno
	}{
		{example(), strokes(up(0, 8)), 50, 1, api.OK},
		{example(), strokes(up(0, 8)), 48, 1, api.OK},
		{example(), strokes(up(0, 8)), 47, 0, api.ErrProof},
		{example(), strokes(up(0, 5), up(0, 5)), 96, 2, api.OK},
		{example(), strokes(up(0, 5), up(0, 5)), 95, 0, api.ErrProof},
		{example(), nil, 288, 0, api.OK},
		{example(), nil, 287, 0, api.ErrProof},
		{example(), nil, 0, 0, api.ErrProof},
		{shaft(100), nil, 0, 0, api.OK},
		// A plan need not be ascending, nor a short one.
		{exampleTwo(), strokes(down(1, 5), up(0, 8)), 100, 2, api.OK},
		{exampleTwo(), strokes(up(1, 5), up(0, 5), down(1, 5), down(0, 5)), 248, 4, api.OK},
	} {
		n, e := distort.CheckPlan(x.s, p, api.DistortPlan{Strokes: x.plan, Tolerance: x.tolerance})
		want(t, "CheckPlan", n, e, x.n, x.e)
	}
}

// P6.3: the errors of the strokes, then that of the tolerance, then kinks that are too great, then the proof
func TestErrorsOfPlans(t *testing.T) {
	for _, x := range badPlans() {
		for _, tolerance := range []int{-1, 0, api.MaxDistortSize} {
			n, e := distort.CheckPlan(x.s, x.p, api.DistortPlan{Strokes: x.plan, Tolerance: tolerance})
			want(t, "CheckPlan", n, e, 0, x.e)
		}
	}
	for _, x := range farPlans() {
		for _, tolerance := range []int{0, api.MaxDistortSize} {
			n, e := distort.CheckPlan(x.s, x.p, api.DistortPlan{Strokes: x.plan, Tolerance: tolerance})
			want(t, "CheckPlan", n, e, 0, x.e)
		}
	}
	for _, tolerance := range []int{-1, 1000000000001, math.MinInt, math.MaxInt} {
		n, e := distort.CheckPlan(example(), examplePress(), api.DistortPlan{Strokes: strokes(up(0, 8)), Tolerance: tolerance})
		want(t, "CheckPlan", n, e, 0, api.ErrRange)
		plan, e := distort.FewestOf(example(), examplePress(), tolerance)
		want(t, "FewestOf", plan, e, strokes(), api.ErrRange)
		n, i, e := distort.BoundOf(example(), examplePress(), tolerance)
		want(t, "BoundOf", []int{n, i}, e, []int{0, 0}, api.ErrRange)
	}
}

// P6.3, example 4, and edge cases
func TestFewestOf(t *testing.T) {
	p := examplePress()
	wide := press(3, 2, 13, 5, 8)
	for _, x := range []struct {
		s         api.DistortShaft
		p         api.DistortPress
		tolerance int
		plan      []api.DistortStroke
		e         api.Errno
	}{
		{example(), p, 50, strokes(up(0, 8)), api.OK},
		{example(), p, 48, strokes(up(0, 8)), api.OK},
		{example(), p, 47, nil, api.ErrNone},
		{example(), p, 20, nil, api.ErrNone},
		{example(), p, 96, strokes(up(0, 8)), api.OK},
		{example(), p, 287, strokes(up(0, 5)), api.OK},
		{example(), p, 288, nil, api.OK},
		{shaft(100), p, 0, nil, api.OK},
		{shaft(100, 40, 0, 0), p, 0, nil, api.OK},
		{shaft(100, 40, 0, 0), press(0, 0, 0, 1), 0, nil, api.OK},
		{shaft(100, 40, -4, -4), p, 0, strokes(down(0, 5)), api.OK},
		{shaft(100, 40, 4, 4), p, 0, strokes(up(0, 5)), api.OK},
		// The limit is reached, or exceeded.
		{shaft(100, 40, 8, 8), p, 0, strokes(up(0, 5), up(0, 5)), api.OK},
		{shaft(100, 40, 14, 14), wide, 0, strokes(up(0, 5), up(0, 8)), api.OK},
		{shaft(100, 40, 14, 14), p, 0, nil, api.ErrNone},
		{shaft(100, 40, 6, 6), wide, 0, strokes(down(0, 5), up(0, 8)), api.OK},
		// At most four strokes, here the maximum number of them.
		{shaft(100, 40, 40, 40), press(3, 2, 32, 5, 8), 0, slices.Repeat(strokes(up(0, 8)), 4), api.OK},
		{shaft(100, 40, 50, 50), press(3, 2, 40000, 5, 8), 0, nil, api.ErrNone},
		// Strokes at two joints, those of the first one first.
		{shaft(100, 40, 10, 10, 80, -4, -4), p, 0, strokes(up(0, 8), down(1, 5)), api.OK},
		{shaft(100, 20, 20, 20, 50, -1, -1, 60, -4, -4), press(3, 2, 16, 5, 8), 25, strokes(up(0, 8), up(0, 8), down(2, 5)), api.OK},
		// Either joint will do: the first one is taken.
		{shaft(100, 40, 5, 5, 60, 5, 5), p, 160, strokes(up(0, 5)), api.OK},
		// A kink may become too great in between, but not after all strokes.
		{shaft(100, 40, -99987, 99999), wide, 24 * 99993, strokes(down(0, 5), up(0, 8)), api.OK},
		{shaft(100, 40, -99998, -99998, 60, 100000, 100000), press(3, 1, 6, 6), 800030, strokes(up(1, 6)), api.OK},
		{shaft(100, 40, -99997, -99997, 60, 100000, 100000), press(3, 1, 6, 6), 800030, strokes(up(0, 6)), api.OK},
		// Strokes that bend nothing are never among the fewest.
		{example(), press(8, 2, 12, 5, 8), 50, nil, api.ErrNone},
		{example(), press(3, 0, 12, 5, 8), 50, nil, api.ErrNone},
	} {
		plan, e := distort.FewestOf(x.s, x.p, x.tolerance)
		want(t, "FewestOf", plan, e, x.plan, x.e)
		best, f := trial{x.s, x.p, x.tolerance, numerators(x.s)}.fewest()
		want(t, "the fewest by trying", best, f, x.plan, x.e)
	}
	n, e := distort.CheckPlan(shaft(100, 40, -99998, -99998, 60, 100000, 100000), press(3, 1, 6, 6), api.DistortPlan{Strokes: strokes(up(0, 6)), Tolerance: 800030})
	want(t, "CheckPlan", n, e, 0, api.ErrRange)
}

// P6.9: the greatest shafts and presses
func TestFewestOfFourJoints(t *testing.T) {
	random := rand.New(rand.NewSource(12))
	found := map[int]int{}
	for range 100 {
		s := shaft(100)
		for _, at := range []int{20, 40, 60, 80} {
			k := random.Intn(41) - 20
			s.Joints, s.Kinks = append(s.Joints, at), append(s.Kinks, one(k))
		}
		p := press(1, 2, 14, 3, 6, 8)
		x := trial{s, p, 60 + random.Intn(240), numerators(s)}
		plan, e := distort.FewestOf(s, p, x.tolerance)
		size := len(plan)
		if e != api.OK {
			found[-1]++
			size = api.MaxDistortStrokes
			plan = nil
		} else {
			found[size]++
			if !slices.IsSortedFunc(plan, ordered) || !x.accepts(plan) {
				t.Errorf("FewestOf %+v: %v", x, plan)
			}
		}
		for fewer := range size {
			x.plans(fewer, func(other []api.DistortStroke) bool {
				if x.accepts(other) {
					t.Errorf("FewestOf %+v: %v, but %v is accepted", x, plan, other)
				}
				return true
			})
		}
		if size > 0 && size < 4 {
			x.plans(size, func(other []api.DistortStroke) bool {
				if !slices.Equal(other, plan) && x.accepts(other) {
					t.Errorf("FewestOf %+v: %v, but %v is accepted, and before it", x, plan, other)
				}
				return !slices.Equal(other, plan)
			})
		}
	}
	if found[1]+found[2] < 3 || found[3] < 3 || found[4] < 3 {
		t.Errorf("too few plans of a size: %v", found)
	}
}

// P6.3, example 5 and edge cases
func TestBoundOf(t *testing.T) {
	p := examplePress()
	small := press(3, 2, 12, 4)
	still := press(8, 2, 12, 5, 8)
	for _, x := range []struct {
		s         api.DistortShaft
		p         api.DistortPress
		tolerance int
		n, joint  int
		e         api.Errno
	}{
		{example(), p, 50, 1, 0, api.OK},
		{example(), p, 285, 1, 0, api.OK},
		{example(), p, 286, 0, 0, api.OK},
		{example(), p, 288, 0, 0, api.OK},
		{example(), p, 1000, 0, 0, api.OK},
		// One stroke of 4 moves the joint by 48.
		{example(), small, 238, 1, 0, api.OK},
		{example(), small, 237, 2, 0, api.OK},
		{example(), small, 190, 2, 0, api.OK},
		{example(), small, 189, 3, 0, api.OK},
		{example(), small, 0, 6, 0, api.OK},
		{shaft(100, 40, -12, -10), small, 189, 3, 0, api.OK},
		{shaft(100, 40, -12, 5), small, 0, 6, 0, api.OK},
		{shaft(100, 40, -5, 12), small, 0, 6, 0, api.OK},
		// The limit and the number of strokes of a plan do not matter.
		{shaft(100, 40, 100000, 100000), press(0, 1, 0, 1), 0, 100000, 0, api.OK},
		{shaft(100), p, 0, 0, 0, api.OK},
		{shaft(100), still, 0, 0, 0, api.OK},
		// A joint moves another one less than that one itself, but may move it more than it moves itself.
		{shaft(100, 20, 10, 10, 80, 10, 10), small, 0, 7, 0, api.OK},
		{shaft(100, 5, 0, 0, 50, 100, 100), small, 0, 50, 1, api.OK},
		{shaft(100, 5, 30, 30, 50, 0, 0), small, 0, 15, 0, api.OK},
		{shaft(100, 40, 10, 10, 60, -10, -10), small, 0, 2, 0, api.OK},
		{shaft(100, 40, 0, 0, 60, 0, 0, 80, 0, 0), small, 0, 0, 0, api.OK},
		{example(), still, 286, 0, 0, api.OK},
		{example(), still, 285, 0, 0, api.ErrNone},
		{example(), press(3, 0, 12, 5, 8), 285, 0, 0, api.ErrNone},
		{shaft(100, 20, 0, 0, 60, 10, 12), still, 0, 0, 0, api.ErrNone},
	} {
		n, joint, e := distort.BoundOf(x.s, x.p, x.tolerance)
		want(t, "BoundOf", []int{n, joint}, e, []int{x.n, x.joint}, x.e)
	}
}

// P6.3: by the definition
func TestBoundByDefinition(t *testing.T) {
	later := 0
	shafts(2000, func(random *rand.Rand, s api.DistortShaft) {
		p := press(between(random, 0, 5), between(random, 0, 4), between(random, 0, 9), between(random, 1, 5), between(random, 6, 9))
		tolerance := between(random, 0, 500)
		rows := numerators(s)
		best, at, f := 0, 0, api.OK
		for i, position := range s.Joints {
			r := heights(s, position)
			e, m := 0, 0
			for _, side := range []int{r.Hi - tolerance, -r.Lo - tolerance} {
				e = max(e, side)
			}
			for j := range s.Joints {
				m = max(m, p.Gain*max(p.Amounts[1]-p.Spring, 0)*rows[i][j])
			}
			if e <= 2 {
				continue
			}
			if m == 0 {
				best, at, f = 0, 0, api.ErrNone
				break
			}
			if n := ceilingOf(rational((e-2)*s.Length, m)); n > best {
				best, at = n, i
			}
		}
		n, joint, e := distort.BoundOf(s, p, tolerance)
		want(t, "BoundOf", []int{n, joint}, e, []int{best, at}, f)
		if at > 0 {
			later++
		}
	})
	if later < 50 {
		t.Errorf("too few shafts: %d", later)
	}
}
