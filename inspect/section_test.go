package inspect_test

import (
	"math/bits"
	"math/rand"
	"slices"
	"testing"

	"martensite/api"
	"martensite/inspect"
)

// P8.3, example 4 and edge case of one number in common
func TestSections(t *testing.T) {
	for _, x := range []struct {
		l      []api.Range
		agreed api.Range
		e      api.Errno
		set    []int
		f      api.Errno
	}{
		{ranges(1, 5, 3, 8), span(3, 5), api.OK, nil, api.ErrNone},
		{ranges(1, 2, 3, 4, 2, 3), api.Range{}, api.ErrClash, []int{0, 1}, api.OK},
		{ranges(1, 2, 2, 3), span(2, 2), api.OK, nil, api.ErrNone},
		{ranges(2, 3, 1, 2), span(2, 2), api.OK, nil, api.ErrNone},
		{ranges(7, 7), span(7, 7), api.OK, nil, api.ErrNone},
		{ranges(0, 10000), span(0, 10000), api.OK, nil, api.ErrNone},
		{ranges(3, 4, 1, 2), api.Range{}, api.ErrClash, []int{0, 1}, api.OK},
		{ranges(0, 9, 5, 6, 3, 4, 7, 8), api.Range{}, api.ErrClash, []int{1, 2}, api.OK},
		{ranges(1, 5, 4, 9, 2, 8, 0, 3, 6, 7), api.Range{}, api.ErrClash, []int{0, 4}, api.OK},
		{slices.Repeat(ranges(3, 5), 12), span(3, 5), api.OK, nil, api.ErrNone},
		{slices.Concat(slices.Repeat(ranges(3, 5), 10), ranges(6, 6, 2, 2)), api.Range{}, api.ErrClash, []int{0, 10}, api.OK},
		{slices.Concat(slices.Repeat(ranges(3, 5), 10), ranges(5, 6, 2, 4)), api.Range{}, api.ErrClash, []int{10, 11}, api.OK},
		{nil, api.Range{}, api.ErrShape, nil, api.ErrShape},
		{[]api.Range{}, api.Range{}, api.ErrShape, nil, api.ErrShape},
		{slices.Repeat(ranges(3, 5), 13), api.Range{}, api.ErrLarge, nil, api.ErrLarge},
		{slices.Repeat(ranges(-3, -5), 13), api.Range{}, api.ErrLarge, nil, api.ErrLarge},
		{ranges(1, 2, 5, 4, -1, 3), api.Range{}, api.ErrOrder, nil, api.ErrOrder},
		{ranges(1, 2, 5, 4001000, 2, 1), api.Range{}, api.ErrRange, nil, api.ErrRange},
		{ranges(1, 2, 3, 4, 2, 1), api.Range{}, api.ErrOrder, nil, api.ErrOrder},
	} {
		r, e := inspect.AgreedOf(x.l)
		want(t, "AgreedOf", r, e, x.agreed, x.e)
		set, e := inspect.Contradicting(x.l)
		want(t, "Contradicting", set, e, x.set, x.f)
	}
	for _, x := range badRanges() {
		for _, l := range [][]api.Range{{x.r}, {span(1, 2), x.r}, {span(1, 2), span(3, 4), x.r, span(-1, 5)}} {
			r, e := inspect.AgreedOf(l)
			want(t, "AgreedOf", r, e, api.Range{}, x.e)
			set, e := inspect.Contradicting(l)
			want(t, "Contradicting", set, e, []int{}, x.e)
		}
	}
}

// shared are all numbers up to most that some ranges have in common.
func shared(l []api.Range, most int) []int {
	var numbers []int
	for n := range most + 1 {
		if !slices.ContainsFunc(l, func(r api.Range) bool { return n < r.Lo || n > r.Hi }) {
			numbers = append(numbers, n)
		}
	}
	return numbers
}

// minimum is the minimum set of ranges without a number in common, of all sets.
func minimum(l []api.Range, most int) []int {
	var least []int
	for choice := range 1 << len(l) {
		var set []int
		var chosen []api.Range
		for i := range l {
			if choice>>i&1 == 1 {
				set, chosen = append(set, i), append(chosen, l[i])
			}
		}
		if bits.OnesCount(uint(choice)) == 0 || len(shared(chosen, most)) > 0 {
			continue
		}
		if least == nil || len(set) < len(least) || len(set) == len(least) && slices.Compare(set, least) < 0 {
			least = set
		}
	}
	return least
}

// P8.3, P8.10: by the definitions, all numbers and all sets tried
func TestSectionsByDefinition(t *testing.T) {
	random := rand.New(rand.NewSource(83))
	agreed := 0
	for i := range 1500 {
		most := 5 + i%20
		var l []api.Range
		for range 1 + random.Intn(6) {
			l = append(l, someRange(random, 0, most))
		}
		r, e := inspect.AgreedOf(l)
		set, f := inspect.Contradicting(l)
		if numbers := shared(l, most); len(numbers) > 0 {
			agreed++
			want(t, "AgreedOf", r, e, span(slices.Min(numbers), slices.Max(numbers)), api.OK)
			want(t, "Contradicting", set, f, []int{}, api.ErrNone)
			continue
		}
		want(t, "AgreedOf", r, e, api.Range{}, api.ErrClash)
		want(t, "Contradicting", set, f, minimum(l, most), api.OK)
		if len(set) != 2 {
			t.Errorf("Contradicting %v: %v", l, set)
		}
	}
	if agreed < 300 || agreed > 1200 {
		t.Errorf("too few sections of a kind: %d agree", agreed)
	}
}
