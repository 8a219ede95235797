package field_test

import (
	"math/rand"
	"testing"

	"martensite/api"
	"martensite/field"
)

// class is a class of a ladder.
func class(x api.FieldLadder, conductances ...api.Range) api.FieldClass {
	return api.FieldClass{Ladder: x, Conductances: conductances}
}

// members does something with all ladders of a class.
func members(c api.FieldClass, do func(x api.FieldLadder)) {
	x := api.FieldLadder{Turns: c.Ladder.Turns, Shells: append([]api.FieldShell{}, c.Ladder.Shells...)}
	var choose func(k int)
	choose = func(k int) {
		if k == len(x.Shells) {
			do(x)
			return
		}
		for n := c.Conductances[k].Lo; n <= c.Conductances[k].Hi; n++ {
			x.Shells[k].Conductance = n
			choose(k + 1)
		}
	}
	choose(0)
}

// within is whether a range lies in another one.
func within(r, outer api.Range) bool { return outer.Lo <= r.Lo && r.Hi <= outer.Hi }

// classes does something with classes, drives and totals.
func classes(do func(c api.FieldClass, d api.FieldDrive, total int)) {
	random := rand.New(rand.NewSource(5))
	for i := range 300 {
		x := someLadder(random, 1+i%api.MaxFieldShells)
		c := class(x, someRanges(random, len(x.Shells), 1, api.MaxFieldConductance)...)
		do(c, someDrive(random, x), []int{0, 1, 100, 5000, api.MaxFieldWatts}[i%5])
	}
	all := span(1, api.MaxFieldConductance)
	do(class(largest(), all, all, all, all), cold(largest(), api.MaxFieldFrequency), api.MaxFieldWatts)
}

// P2.6: the errors of classes, in their order
func TestCheckClass(t *testing.T) {
	ok := span(1, api.MaxFieldConductance)
	type row struct {
		c     api.FieldClass
		index int
		e     api.Errno
	}
	rows := []row{
		{class(example(), ok, ok), 0, api.OK},
		{class(example(), span(4, 4), span(1, 1)), 0, api.OK},
		{class(example()), 0, api.ErrShape},
		{class(example(), span(0, 1)), 0, api.ErrShape},
		{class(example(), ok, ok, ok), 0, api.ErrShape},
		{class(example(), span(0, 1), ok), 0, api.ErrRange},
		{class(example(), ok, span(-1, 1)), 1, api.ErrRange},
		{class(example(), ok, span(1, 5)), 1, api.ErrRange},
		{class(example(), ok, span(5, 4)), 1, api.ErrRange},
		{class(example(), ok, span(1, 0)), 1, api.ErrRange},
		{class(example(), span(2, 1), ok), 0, api.ErrOrder},
		{class(example(), ok, span(4, 3)), 1, api.ErrOrder},
		{class(example(), span(4, 1), span(0, 1)), 0, api.ErrOrder},
		{class(example(), span(5, 5), span(2, 1)), 0, api.ErrRange},
	}
	for _, b := range badLadders() {
		rows = append(rows, row{class(b.x, span(0, 0)), b.index, b.e})
	}
	for _, r := range rows {
		i, e := field.CheckClass(r.c)
		want(t, "CheckClass", i, e, r.index, r.e)
		if r.e != api.OK {
			l, e := field.RangesOf(r.c, drive(0), -1)
			want(t, "RangesOf of a bad class", l, e, []api.Range{}, r.e)
		}
	}
	for _, b := range badDrives() {
		l, e := field.RangesOf(class(example(), ok, ok), b.d, -1)
		want(t, "RangesOf with a bad drive", l, e, []api.Range{}, b.e)
	}
	for _, total := range []int{-1, api.MaxFieldWatts + 1} {
		l, e := field.RangesOf(class(example(), ok, ok), drive(1, true, false), total)
		want(t, "RangesOf with a bad total", l, e, []api.Range{}, api.ErrRange)
	}
}

// P2.6, example 7
func TestRangesOfExample(t *testing.T) {
	l, e := field.RangesOf(class(example(), span(1, 2), span(1, 1)), drive(1, false, false), 100)
	want(t, "RangesOf", l, e, []api.Range{span(66, 80), span(20, 34)}, api.OK)
	l, e = field.RangesOf(class(example(), span(2, 2), span(1, 1)), drive(1, false, false), 100)
	want(t, "a class without the conductances of its ladder", l, e, []api.Range{span(80, 80), span(20, 20)}, api.OK)
	l, e = field.RangesOf(class(example(), span(1, 4), span(1, 4)), drive(1, false, false), 0)
	want(t, "a total of 0", l, e, []api.Range{span(0, 0), span(0, 0)}, api.OK)
}

// P2.6, P2.13: the ranges are those of the watts of all ladders of the class
func TestRangesByDefinition(t *testing.T) {
	classes(func(c api.FieldClass, d api.FieldDrive, total int) {
		var ranges []api.Range
		members(c, func(x api.FieldLadder) {
			for k, n := range wattsByDefinition(x, d, total) {
				if len(ranges) == k {
					ranges = append(ranges, span(n, n))
				}
				ranges[k] = span(min(ranges[k].Lo, n), max(ranges[k].Hi, n))
			}
		})
		l, e := field.RangesOf(c, d, total)
		want(t, "RangesOf", l, e, ranges, api.OK)
	})
}

// P2.13: a class within a class has ranges within its ranges
func TestClassWithinClass(t *testing.T) {
	random := rand.New(rand.NewSource(6))
	classes(func(c api.FieldClass, d api.FieldDrive, total int) {
		outer, _ := field.RangesOf(c, d, total)
		smaller := class(c.Ladder)
		for _, r := range c.Conductances {
			smaller.Conductances = append(smaller.Conductances, someRanges(random, 1, r.Lo, r.Hi)...)
		}
		inner, e := field.RangesOf(smaller, d, total)
		for k, r := range inner {
			if e != api.OK || !within(r, outer[k]) {
				t.Errorf("the ranges of %+v are not within those of %+v: %v, %v", smaller, c, inner, outer)
			}
		}
	})
}

// R3: arguments are not modified, and results share no memory with them
func TestArgumentsStay(t *testing.T) {
	c := class(example(), span(1, 4), span(2, 3))
	hot, given := []bool{true, false}, []api.Gauss{gauss(-1, 5), gauss(1, 1), gauss(1, 0)}
	first, _ := field.VoltagesOf(c.Ladder, drive(1, hot...))
	second, _ := field.VoltagesOf(c.Ladder, drive(1, hot...))
	first[0] = api.Gauss{}
	field.RangesOf(c, drive(1, hot...), 100)
	field.CheckVoltages(c.Ladder, drive(1, hot...), given)
	field.FrequencyFor(c.Ladder, hot, api.FieldWish{Percent: 50, Depth: 1})
	want(t, "the class", c, api.OK, class(example(), span(1, 4), span(2, 3)), api.OK)
	want(t, "which shells are hot", hot, api.OK, []bool{true, false}, api.OK)
	want(t, "the voltages", given, api.OK, []api.Gauss{gauss(-1, 5), gauss(1, 1), gauss(1, 0)}, api.OK)
	want(t, "a second result", second[0], api.OK, gauss(0, 3), api.OK)
}
