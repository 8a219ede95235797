package record_test

import (
	"slices"
	"testing"

	"martensite/api"
	"martensite/record"
)

// allBadNets are nets with errors.
func allBadNets() []badNet {
	a, none := person("a", 0), person("", -1)
	worst := withPeople(none)
	worst.Plan, worst.Limit, worst.Case = "", -1, span(-1, -2)
	late := exampleNet()
	late.Plan, late.Limit, late.Case = "2 ", -1, span(-1, -2)
	limit := exampleNet()
	limit.Limit, limit.Case = 2001, span(2, 1)
	l := []badNet{
		{api.RecordNet{}, 0, api.ErrShape},
		{withPeople(), 0, api.ErrShape},
		{withPeople(slices.Repeat([]api.RecordPerson{none}, 9)...), 0, api.ErrLarge},
		{worst, 0, api.ErrName},
		{withPeople(a, none), 1, api.ErrName},
		{withPeople(a, person("b", 1), person("a", -1)), 2, api.ErrExists},
		{withPeople(a, a, none), 1, api.ErrExists},
		{withPeople(a, person("b", 5), a), 1, api.ErrKind},
		{late, 0, api.ErrSyntax},
		{limit, 0, api.ErrRange},
		{withPlan(""), 0, api.ErrSyntax},
		{withPlan("2  power"), 0, api.ErrSyntax},
		{withPlan("02 power"), 0, api.ErrSyntax},
		{withPlan("2"), 0, api.ErrShape},
		{withPlan("2 a b c d e"), 0, api.ErrLarge},
		{withPlan("2 a 1"), 0, api.ErrName},
		{withPlan("2 a a"), 0, api.ErrExists},
		{withPlan("0 a"), 0, api.ErrRange},
		{withPlan("13 a"), 0, api.ErrRange},
		{withCase(2, 1), 0, api.ErrOrder},
		{withCase(10000, 0), 0, api.ErrOrder},
		{withCase(10001, 0), 0, api.ErrRange},
		{withCase(0, -1), 0, api.ErrRange},
	}
	for _, name := range append(noNames(), "", "a b", " a", "a ", "\u00e9", "a\x00") {
		l = append(l, badNet{withPeople(a, person(name, 0)), 1, api.ErrName})
	}
	for _, role := range append(extremes(), -1, 5) {
		l = append(l, badNet{withPeople(a, person("b", role)), 1, api.ErrKind})
	}
	for _, limit := range append(extremes(), -1, 2001) {
		l = append(l, badNet{withLimit(limit), 0, api.ErrRange})
	}
	for _, depth := range append(extremes(), -1, 10001) {
		l = append(l, badNet{withCase(depth, 100), 0, api.ErrRange}, badNet{withCase(100, depth), 0, api.ErrRange})
	}
	return l
}

// P10.1
func TestCheckNet(t *testing.T) {
	var eight []api.RecordPerson
	for _, name := range []string{"a", "b", "A", "a-", "a0", "abcdefghijkl", "z9", "Z"} {
		eight = append(eight, person(name, len(eight)%api.RecordRoles))
	}
	for _, n := range []api.RecordNet{
		exampleNet(), withPeople(eight...), withPeople(person("a", 0)), withPlan("12 a b c d"), withPlan("1 a"),
		withLimit(0), withLimit(2000), withCase(0, 0), withCase(0, 10000), withCase(10000, 10000),
	} {
		i, e := record.CheckNet(n)
		want(t, "CheckNet", i, e, 0, api.OK)
		d, e := record.New(n)
		want(t, "New", d != nil, e, true, api.OK)
	}
	for _, x := range allBadNets() {
		i, e := record.CheckNet(x.n)
		want(t, "CheckNet", i, e, x.index, x.e)
	}
}

// P10.1 to P10.7: the error of the net comes first, without the index
func TestErrorsOfNets(t *testing.T) {
	for _, x := range allBadNets() {
		for _, l := range [][]api.RecordEntry{nil, exampleLog(), slices.Repeat(log(entry(-1, "", "")), 61)} {
			i, e := record.CheckLog(x.n, l)
			want(t, "CheckLog", i, e, 0, x.e)
			everyCall(t, x.n, l, x.e, true)
		}
	}
}
