package distort_test

import (
	"fmt"
	"math/big"
	"math/rand"
	"slices"
	"testing"

	"martensite/api"
)

// same compares two values as they are printed, so that nil and empty slices are equal.
func same(a, b any) bool { return fmt.Sprintf("%+v", a) == fmt.Sprintf("%+v", b) }

// want compares a result and an error with those that are expected.
func want(t *testing.T, what string, got any, e api.Errno, value any, f api.Errno) {
	t.Helper()
	if !same(got, value) || e != f {
		t.Errorf("%s: %+v, %d, want %+v, %d", what, got, e, value, f)
	}
}

// span is a range, one is a range of one number.
func span(lo, hi int) api.Range { return api.Range{Lo: lo, Hi: hi} }
func one(n int) api.Range       { return span(n, n) }

// shaft is a shaft; of each joint the position and both ends of the kink are given.
func shaft(length int, numbers ...int) api.DistortShaft {
	s := api.DistortShaft{Length: length}
	for l := range slices.Chunk(numbers, 3) {
		s.Joints = append(s.Joints, l[0])
		s.Kinks = append(s.Kinks, span(l[1], l[2]))
	}
	return s
}

// press is a press.
func press(spring, gain, limit int, amounts ...int) api.DistortPress {
	return api.DistortPress{Amounts: amounts, Spring: spring, Gain: gain, Limit: limit}
}

// down and up are strokes, strokes is a list of strokes.
func down(joint, amount int) api.DistortStroke {
	return api.DistortStroke{Joint: joint, Amount: amount}
}
func up(joint, amount int) api.DistortStroke {
	return api.DistortStroke{Joint: joint, Amount: amount, Up: true}
}
func strokes(l ...api.DistortStroke) []api.DistortStroke { return l }

// example, exampleTwo and examplePress are the shaft, the shaft with a second joint, and the press of the document's examples.
func example() api.DistortShaft      { return shaft(100, 40, 10, 12) }
func exampleTwo() api.DistortShaft   { return shaft(100, 40, 10, 12, 80, -5, -5) }
func examplePress() api.DistortPress { return press(3, 2, 12, 5, 8) }

// none is the shaft that is returned with an error.
func none() api.DistortShaft { return api.DistortShaft{} }

// rational is num / den.
func rational(num, den int) *big.Rat { return big.NewRat(int64(num), int64(den)) }

// floorOf and ceilingOf are an exact number rounded down and up.
func floorOf(x *big.Rat) int   { return int(new(big.Int).Div(x.Num(), x.Denom()).Int64()) }
func ceilingOf(x *big.Rat) int { return -floorOf(new(big.Rat).Neg(x)) }

// lineAt is the height at a position of the line of a shaft with these kinks: it is bent at each joint, and is 0 at both supports.
func lineAt(s api.DistortShaft, kinks []int, position int) *big.Rat {
	// The slope at the beginning is such that the line ends at 0.
	slope := new(big.Rat)
	for i, at := range s.Joints {
		slope.Add(slope, rational(kinks[i]*(s.Length-at), s.Length))
	}
	height := slope.Mul(slope, rational(position, 1))
	for i, at := range s.Joints {
		if at < position {
			height.Sub(height, rational(kinks[i]*(position-at), 1))
		}
	}
	return height
}

// ends are the lower and the upper ends of the kinks of a shaft.
func ends(s api.DistortShaft) (lower, upper []int) {
	for _, k := range s.Kinks {
		lower, upper = append(lower, k.Lo), append(upper, k.Hi)
	}
	return lower, upper
}

// heights is the deflection range at a position, computed from the line of the shaft.
func heights(s api.DistortShaft, position int) api.Range {
	lower, upper := ends(s)
	return span(floorOf(lineAt(s, lower, position)), ceilingOf(lineAt(s, upper, position)))
}

// between is a random number from lo to hi, often one of these.
func between(random *rand.Rand, lo, hi int) int {
	switch random.Intn(8) {
	case 0:
		return lo
	case 1:
		return hi
	}
	return lo + random.Intn(hi-lo+1)
}

// someRange is a range from lo to hi.
func someRange(random *rand.Rand, lo, hi int) api.Range {
	a, b := between(random, lo, hi), between(random, lo, hi)
	return span(min(a, b), max(a, b))
}

// someShaft is a shaft with at most so many joints, whose kinks are at most so great.
func someShaft(random *rand.Rand, joints, most int) api.DistortShaft {
	lengths := []int{1, 2, 7, 50, 1000, api.MaxDistortLength}
	s := api.DistortShaft{Length: lengths[random.Intn(len(lengths))]}
	for _, at := range random.Perm(s.Length)[:min(random.Intn(joints+1), s.Length-1)] {
		s.Joints = append(s.Joints, max(at, 1))
	}
	slices.Sort(s.Joints)
	s.Joints = slices.Compact(s.Joints)
	for range s.Joints {
		s.Kinks = append(s.Kinks, someRange(random, -most, most))
	}
	return s
}

// shafts calls a function with random shafts.
func shafts(count int, do func(*rand.Rand, api.DistortShaft)) {
	random := rand.New(rand.NewSource(6))
	for i := range count {
		do(random, someShaft(random, api.MaxDistortJoints, []int{3, 100, api.MaxDistortKink}[i%3]))
	}
}
