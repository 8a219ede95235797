package inspect_test

import (
	"fmt"
	"math/big"
	"math/rand"
	"slices"
	"testing"

	"martensite/api"
)

// same compares two values as they are printed, so that nil and empty slices are equal.
func same(a, b any) bool { return fmt.Sprintf("%+v", a) == fmt.Sprintf("%+v", b) }

// want compares a result and an error with those that are expected.
func want(t *testing.T, what string, got any, e api.Errno, value any, f api.Errno) {
	t.Helper()
	if !same(got, value) || e != f {
		t.Errorf("%s: %+v, %d, want %+v, %d", what, got, e, value, f)
	}
}

// span is a range, frac is a fraction, whole is a fraction that is a whole number, between is a span.
func span(lo, hi int) api.Range        { return api.Range{Lo: lo, Hi: hi} }
func frac(num, den int) api.Frac       { return api.Frac{Num: num, Den: den} }
func whole(n int) api.Frac             { return frac(n, 1) }
func between(lo, hi api.Frac) api.Span { return api.Span{Lo: lo, Hi: hi} }

// traverse is a traverse; of each indent the depth, the diagonal and both ends of the hardness are given.
func traverse(numbers ...int) api.InspectTraverse {
	var t api.InspectTraverse
	for l := range slices.Chunk(numbers, 4) {
		t.Indents = append(t.Indents, api.InspectIndent{Depth: l[0], Diagonal: l[1], Hardness: span(l[2], l[3])})
	}
	return t
}

// table is a table; of each knot From and both ends of To are given.
func table(numbers ...int) api.InspectTable {
	var x api.InspectTable
	for l := range slices.Chunk(numbers, 3) {
		x.Knots = append(x.Knots, api.InspectKnot{From: l[0], To: span(l[1], l[2])})
	}
	return x
}

// ranges is a list of ranges, of which all ends are given.
func ranges(ends ...int) []api.Range {
	var l []api.Range
	for x := range slices.Chunk(ends, 2) {
		l = append(l, span(x[0], x[1]))
	}
	return l
}

// exampleTraverse and exampleTable are those of the document's examples.
func exampleTraverse() api.InspectTraverse {
	return traverse(50, 10, 700, 720, 100, 12, 600, 620, 150, 12, 400, 420)
}
func exampleTable() api.InspectTable { return table(400, 40, 41, 600, 55, 56, 700, 60, 61) }

// noTraverse and noTable are what is returned with an error.
func noTraverse() api.InspectTraverse { return api.InspectTraverse{} }
func noTable() api.InspectTable       { return api.InspectTable{} }

// rational is num / den.
func rational(num, den int) *big.Rat { return big.NewRat(int64(num), int64(den)) }

// lowest is an exact number whose parts are small.
func lowest(x *big.Rat) api.Frac {
	return frac(int(x.Num().Int64()), int(x.Denom().Int64()))
}

// exact is a fraction as an exact number.
func exact(f api.Frac) *big.Rat { return rational(f.Num, f.Den) }

// compared is below 0, 0 or above 0 if a fraction is less than another one, equal to it or greater.
func compared(a, b api.Frac) int { return exact(a).Cmp(exact(b)) }

// floorOf and ceilingOf are an exact number rounded down and up.
func floorOf(x *big.Rat) int   { return int(new(big.Int).Div(x.Num(), x.Denom()).Int64()) }
func ceilingOf(x *big.Rat) int { return -floorOf(new(big.Rat).Neg(x)) }

// straight is the number at a place of what goes straight from each of some points to the next one, by the part of the way that is left.
func straight(places, numbers []int, place int) *big.Rat {
	for i := range places {
		if places[i] == place {
			return rational(numbers[i], 1)
		}
		if places[i] > place {
			part := rational(places[i]-place, places[i]-places[i-1])
			rise := part.Mul(part, rational(numbers[i-1]-numbers[i], 1))
			return rise.Add(rise, rational(numbers[i], 1))
		}
	}
	panic("no such place")
}

// someNumber is a random number from lo to hi, often one of these.
func someNumber(random *rand.Rand, lo, hi int) int {
	switch random.Intn(8) {
	case 0:
		return lo
	case 1:
		return hi
	}
	return lo + random.Intn(hi-lo+1)
}

// someRange is a range from lo to hi.
func someRange(random *rand.Rand, lo, hi int) api.Range {
	a, b := someNumber(random, lo, hi), someNumber(random, lo, hi)
	return span(min(a, b), max(a, b))
}

// someTraverse is a traverse whose hardness is at most this.
func someTraverse(random *rand.Rand, most int) api.InspectTraverse {
	var t api.InspectTraverse
	depth, before := 0, 0
	for i := range 2 + random.Intn(api.MaxInspectIndents-1) {
		x := api.InspectIndent{Diagonal: 1 + random.Intn(100), Hardness: someRange(random, 0, most)}
		distance := api.InspectApart * max(x.Diagonal, before)
		if i == 0 {
			distance = (api.InspectEdge*x.Diagonal + 1) / 2
		}
		x.Depth = depth + distance + random.Intn(2)*random.Intn(50)
		depth, before = x.Depth, x.Diagonal
		t.Indents = append(t.Indents, x)
	}
	return t
}

// someTable is a table whose numbers are at most this.
func someTable(random *rand.Rand, most int) api.InspectTable {
	from := random.Perm(most + 1)[:2+random.Intn(api.MaxInspectKnots-1)]
	var lower, upper []int
	for range from {
		r := someRange(random, 0, most)
		lower, upper = append(lower, r.Lo), append(upper, r.Hi)
	}
	for _, l := range [][]int{from, lower, upper} {
		slices.Sort(l)
	}
	var x api.InspectTable
	for i := range from {
		x.Knots = append(x.Knots, api.InspectKnot{From: from[i], To: span(lower[i], upper[i])})
	}
	return x
}

// traverses and tables call a function with random ones; small numbers are often equal.
func traverses(count int, do func(*rand.Rand, api.InspectTraverse)) {
	random := rand.New(rand.NewSource(8))
	for i := range count {
		do(random, someTraverse(random, []int{3, 50, api.MaxInspectHardness}[i%3]))
	}
}
func tables(count int, do func(*rand.Rand, api.InspectTable)) {
	random := rand.New(rand.NewSource(88))
	for i := range count {
		do(random, someTable(random, []int{12, 60, api.MaxInspectHardness}[i%3]))
	}
}
