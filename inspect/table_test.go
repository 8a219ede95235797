package inspect_test

import (
	"math"
	"math/rand"
	"testing"

	"martensite/api"
	"martensite/inspect"
)

// badTable is a table with an error, and its index.
type badTable struct {
	x     api.InspectTable
	index int
	e     api.Errno
}

// badTables are tables with errors.
func badTables() []badTable {
	l := []badTable{
		{table(), 0, api.ErrShape},
		{table(1, 1, 1), 0, api.ErrShape},
		{table(-1, 2, 1), 0, api.ErrShape},
		{api.InspectTable{Knots: make([]api.InspectKnot, 13)}, 0, api.ErrLarge},
		{api.InspectTable{Knots: make([]api.InspectKnot, 12)}, 1, api.ErrOrder},
		{table(1, 2, 1, 2, 2, 2), 0, api.ErrOrder},
		{table(1, 1, 1, 2, 3, 2), 1, api.ErrOrder},
		{table(1, 1, 1, 1, 1, 1), 1, api.ErrOrder},
		{table(2, 1, 1, 1, 1, 1), 1, api.ErrOrder},
		{table(1, 2, 2, 2, 1, 2), 1, api.ErrOrder},
		{table(1, 1, 3, 2, 1, 2), 1, api.ErrOrder},
		{table(1, 1, 1, 2, 2, 2, 2, 2, 2), 2, api.ErrOrder},
		{table(1, 1, 1, 2, 2, 2, 3, 1, 2), 2, api.ErrOrder},
		{table(1, 1, 1, 2, 2, 4, 3, 3, 3), 2, api.ErrOrder},
		{table(1, 1, 1, 2, 2, 2, 1, -1, 2), 2, api.ErrRange},
		{table(1, 2, 1, 2, 2, 2001), 0, api.ErrOrder},
		{table(1, 2001, 1, 2, 2, 2), 0, api.ErrRange},
	}
	for _, n := range []int{-1, 2001, math.MinInt, math.MaxInt} {
		l = append(l,
			badTable{table(n, 2, 1, 2, 2, 2), 0, api.ErrRange},
			badTable{table(1, n, 1, 2, 2, 2), 0, api.ErrRange},
			badTable{table(1, 1, n, 2, 2, 2), 0, api.ErrRange},
			badTable{table(1, 1, 1, n, 0, 0), 1, api.ErrRange},
			badTable{table(1, 1, 1, 1, n, 0), 1, api.ErrRange},
			badTable{table(1, 1, 1, 1, 0, n), 1, api.ErrRange})
	}
	return l
}

// goodTables are tables without errors.
func goodTables() []api.InspectTable {
	longest := table()
	for i := range 12 {
		longest.Knots = append(longest.Knots, api.InspectKnot{From: 2000 - 11 + i, To: span(0, 2000)})
	}
	return []api.InspectTable{
		exampleTable(),
		longest,
		table(0, 0, 0, 2000, 0, 0),
		table(0, 0, 2000, 1, 2000, 2000),
		table(7, 5, 5, 8, 5, 6, 9, 6, 6),
	}
}

// badRange is a range with an error.
type badRange struct {
	r api.Range
	e api.Errno
}

// badRanges are ranges with errors.
func badRanges() []badRange {
	return []badRange{
		{span(-1, 1), api.ErrRange},
		{span(10001, 10002), api.ErrRange},
		{span(1, 10001), api.ErrRange},
		{span(0, -1), api.ErrRange},
		{span(10001, 1), api.ErrRange},
		{span(math.MinInt, 1), api.ErrRange},
		{span(1, math.MaxInt), api.ErrRange},
		{span(math.MaxInt, math.MinInt), api.ErrRange},
		{span(2, 1), api.ErrOrder},
		{span(10000, 0), api.ErrOrder},
	}
}

// P8.2: the errors of tables, also before those of ranges and traverses
func TestCheckTable(t *testing.T) {
	for _, x := range badTables() {
		i, e := inspect.CheckTable(x.x)
		want(t, "CheckTable", i, e, x.index, x.e)
		r, e := inspect.Converted(x.x, span(-1, -2))
		want(t, "Converted", r, e, api.Range{}, x.e)
		for _, y := range []api.InspectTraverse{exampleTraverse(), noTraverse()} {
			made, i, e := inspect.ConvertedTraverse(x.x, y)
			want(t, "ConvertedTraverse", made, e, noTraverse(), x.e)
			want(t, "ConvertedTraverse", i, e, 0, x.e)
		}
	}
	for _, x := range goodTables() {
		i, e := inspect.CheckTable(x)
		want(t, "CheckTable", i, e, 0, api.OK)
	}
	tables(300, func(_ *rand.Rand, x api.InspectTable) {
		i, e := inspect.CheckTable(x)
		want(t, "CheckTable", i, e, 0, api.OK)
	})
}

// P8.2, example 3 and edge case of a number at a knot
func TestConverted(t *testing.T) {
	for _, x := range []struct {
		r, wanted api.Range
		e         api.Errno
	}{
		{span(500, 500), span(47, 49), api.OK},
		{span(450, 600), span(43, 56), api.OK},
		{span(400, 400), span(40, 41), api.OK},
		{span(600, 600), span(55, 56), api.OK},
		{span(700, 700), span(60, 61), api.OK},
		{span(400, 700), span(40, 61), api.OK},
		{span(401, 401), span(40, 42), api.OK},
		{span(599, 601), span(54, 57), api.OK},
		{span(620, 620), span(56, 57), api.OK},
		{span(399, 500), api.Range{}, api.ErrMissing},
		{span(399, 399), api.Range{}, api.ErrMissing},
		{span(500, 701), api.Range{}, api.ErrMissing},
		{span(701, 701), api.Range{}, api.ErrMissing},
		{span(0, 10000), api.Range{}, api.ErrMissing},
		{span(10000, 10000), api.Range{}, api.ErrMissing},
		{span(399, 701), api.Range{}, api.ErrMissing},
	} {
		r, e := inspect.Converted(exampleTable(), x.r)
		want(t, "Converted", r, e, x.wanted, x.e)
	}
	for _, x := range badRanges() {
		r, e := inspect.Converted(exampleTable(), x.r)
		want(t, "Converted", r, e, api.Range{}, x.e)
	}
}

// ends are the numbers of a table.
func ends(x api.InspectTable) (from, lower, upper []int) {
	for _, k := range x.Knots {
		from, lower, upper = append(from, k.From), append(lower, k.To.Lo), append(upper, k.To.Hi)
	}
	return from, lower, upper
}

// P8.2: by the definition
func TestConvertedByDefinition(t *testing.T) {
	tables(1000, func(random *rand.Rand, x api.InspectTable) {
		from, lower, upper := ends(x)
		for range 20 {
			r := someRange(random, from[0], from[len(from)-1])
			wanted := span(floorOf(straight(from, lower, r.Lo)), ceilingOf(straight(from, upper, r.Hi)))
			got, e := inspect.Converted(x, r)
			if got != wanted || e != api.OK {
				t.Fatalf("Converted %v, %v: %v, %d, want %v", x, r, got, e, wanted)
			}
		}
	})
}

// P8.9: monotone
func TestMonotoneTables(t *testing.T) {
	tables(1000, func(random *rand.Rand, x api.InspectTable) {
		first, last := x.Knots[0].From, x.Knots[len(x.Knots)-1].From
		outer := someRange(random, first, last)
		inner := someRange(random, outer.Lo, outer.Hi)
		a, _ := inspect.Converted(x, outer)
		b, e := inspect.Converted(x, inner)
		if e != api.OK || a.Lo > b.Lo || b.Lo > b.Hi || b.Hi > a.Hi {
			t.Errorf("Converted %v, %v: %v, %v: %v", x, outer, a, inner, b)
		}
		small, _ := inspect.Converted(x, span(outer.Lo, outer.Lo))
		great, _ := inspect.Converted(x, span(outer.Hi, outer.Hi))
		if small.Lo > great.Lo || small.Hi > great.Hi {
			t.Errorf("Converted %v, %v: %v, %v", x, outer, small, great)
		}
	})
}

// P8.2: the traverse is converted indent by indent, or the first indent that is not in the table is named
func TestConvertedTraverse(t *testing.T) {
	given := traverse(50, 10, 500, 500, 100, 12, 450, 600)
	made, i, e := inspect.ConvertedTraverse(exampleTable(), given)
	want(t, "ConvertedTraverse", made, e, traverse(50, 10, 47, 49, 100, 12, 43, 56), api.OK)
	want(t, "ConvertedTraverse", i, e, 0, api.OK)
	made.Indents[0].Depth = 7
	want(t, "ConvertedTraverse", given, e, traverse(50, 10, 500, 500, 100, 12, 450, 600), api.OK)
	for _, x := range []struct {
		t     api.InspectTraverse
		index int
	}{
		{traverse(50, 10, 399, 500, 100, 12, 450, 600), 0},
		{traverse(50, 10, 500, 701, 100, 12, 450, 701), 0},
		{traverse(50, 10, 500, 500, 100, 12, 399, 600), 1},
		{traverse(50, 10, 500, 500, 100, 12, 399, 399), 1},
		{traverse(50, 10, 500, 500, 100, 12, 400, 700, 150, 1, 0, 2000, 160, 1, 0, 1), 2},
	} {
		made, i, e := inspect.ConvertedTraverse(exampleTable(), x.t)
		want(t, "ConvertedTraverse", made, e, noTraverse(), api.ErrMissing)
		want(t, "ConvertedTraverse", i, e, x.index, api.ErrMissing)
	}
}

// P8.2: each indent is converted as its range is
func TestConvertedIndents(t *testing.T) {
	random := rand.New(rand.NewSource(82))
	tables(500, func(_ *rand.Rand, x api.InspectTable) {
		y := someTraverse(random, x.Knots[len(x.Knots)-1].From)
		wanted, index, f := y, 0, api.OK
		wanted.Indents = append([]api.InspectIndent{}, y.Indents...)
		for i := range y.Indents {
			r, e := inspect.Converted(x, y.Indents[i].Hardness)
			if e != api.OK {
				wanted, index, f = noTraverse(), i, e
				break
			}
			wanted.Indents[i].Hardness = r
		}
		made, i, e := inspect.ConvertedTraverse(x, y)
		want(t, "ConvertedTraverse", made, e, wanted, f)
		want(t, "ConvertedTraverse", i, e, index, f)
		if j, e := inspect.CheckTraverse(made); f == api.OK && e != api.OK {
			t.Errorf("CheckTraverse %v: %d, %d", made, j, e)
		}
	})
}
