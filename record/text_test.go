package record_test

import (
	"strings"
	"testing"

	"martensite/api"
	"martensite/record"
)

// tried wants an error of an entry by a person at the time 9 after a log.
func tried(t *testing.T, n api.RecordNet, l []api.RecordEntry, by, text string, f api.Errno) {
	t.Helper()
	_, e := record.Appended(n, l, entry(9, by, text))
	want(t, by+": "+text, 0, e, 0, f)
}

// P10.2: a text is allowed for the role of the table and greater ones
func TestRoles(t *testing.T) {
	people := []string{"gus", "ola", "sem", "ina", "eva"}
	ready := exampleLog()[:8]
	under := exampleLog()[:10]
	for _, x := range []struct {
		l    []api.RecordEntry
		text string
		role int
	}{
		{nil, "note ", api.RecordGuest},
		{ready, "start 2 r c", api.RecordOperator},
		{under, "frame 0 10", api.RecordOperator},
		{under, "end", api.RecordOperator},
		{exampleLog()[:12], "good 2", api.RecordOperator},
		{ready, "bad 1", api.RecordOperator},
		{ready, "coil d 1", api.RecordSetter},
		{ready, "repair c", api.RecordSetter},
		{ready, "mark 1", api.RecordInspector},
		{ready, "section 1 " + deep, api.RecordInspector},
		{ready, "recipe r " + phases, api.RecordEngineer},
		{exampleLog()[:6], "model 1", api.RecordEngineer},
		{ready, "learn 0", api.RecordEngineer},
	} {
		for role, by := range people {
			f := api.OK
			if role < x.role {
				f = api.ErrAllowed
			}
			tried(t, exampleNet(), x.l, by, x.text, f)
			word, _, _ := strings.Cut(x.text, " ")
			for _, malformed := range []string{word, word + " ", x.text + "\n"} {
				if role >= x.role || strings.HasSuffix(malformed, "\n") {
					continue
				}
				tried(t, exampleNet(), x.l, by, malformed, api.ErrAllowed)
			}
		}
	}
}

// P10.2, edge cases of "note ", "note" and "end "
func TestForms(t *testing.T) {
	for _, text := range []string{
		"note", "end ", "end x", "start", "start ", "start 1", "start 1 ", "start 1 r", "start 1 r ", "start 1 r c ", "start 1 r c x", "start  1 r c", "start 1  r c", "start 1 r  c", "start 1  c",
		"frame", "good", "good ", "good 1 ", "good  1", "good 1 x", "bad", "bad ", "bad 1 ", "bad 1 2", "coil", "coil ", "coil c", "coil c ", "coil  1", "coil c 1 ", "coil c  1", "coil c 1 1",
		"repair", "repair ", "repair c ", "repair  c", "repair c c", "mark", "mark ", "mark 1 ", "section", "section ", "section 1", "section  1", "section  ", "recipe", "recipe ", "recipe r", "recipe  r", "recipe  ",
		"model", "model ", "model 1 ", "learn", "learn ", "learn 1 ",
	} {
		tried(t, exampleNet(), exampleLog(), "eva", text, api.ErrSyntax)
	}
	for _, s := range noNumbers() {
		for _, text := range []string{"start " + s + " r c", "good " + s, "bad " + s, "coil d " + s, "mark " + s, "section " + s + " " + deep, "model " + s, "learn " + s} {
			tried(t, exampleNet(), exampleLog(), "eva", text, api.ErrSyntax)
		}
	}
	for _, s := range noNames() {
		for text, f := range map[string]api.Errno{"coil " + s + " 0": api.ErrName, "recipe " + s + " x": api.ErrName, "repair " + s: api.ErrMissing, "start 3 " + s + " c": api.ErrMissing, "start 3 r " + s: api.ErrMissing} {
			tried(t, exampleNet(), exampleLog(), "eva", text, f)
		}
	}
	for _, text := range []string{"note ", "note  ", "note x  y ", "note note"} {
		tried(t, exampleNet(), exampleLog(), "gus", text, api.OK)
	}
}

// wrong are texts with their errors after a log.
type wrong struct {
	l      []api.RecordEntry
	errors map[string]api.Errno
}

// allWrong are texts with their errors, which are found in the order of the table.
func allWrong() []wrong {
	l, inside := exampleLog(), exampleLog()[:12]
	under := joined(l, byEva("coil d 1", "start 3 r d", "frame 0 10")...)
	worn := joined(l, byEva(append(cycle(3, "r", "c"), "recipe q "+phases)...)...)
	return []wrong{
		{nil, map[string]api.Errno{
			"start 1000001 q d": api.ErrRange, "start 9999999 q d": api.ErrRange, "start 1000000 q d": api.ErrMissing, "start 0 q d": api.ErrMissing,
			"frame x": api.ErrNone, "end": api.ErrNone, "good 0": api.ErrMissing, "bad 0": api.ErrMissing, "repair c": api.ErrMissing,
			"mark 0": api.ErrMissing, "section 0 x": api.ErrMissing, "model 0": api.ErrMissing, "learn 0": api.ErrShape, "learn 9999999": api.ErrShape,
			"coil 1 0": api.ErrName, "coil c 0": api.ErrRange, "coil c 1001": api.ErrRange, "coil c 1000": api.OK, "coil c 1": api.OK,
			"recipe 1 x": api.ErrName, "recipe r x": api.ErrSyntax, "recipe r ": api.ErrSyntax, "recipe r heat 400 2": api.ErrState, "recipe r heat 0 2": api.ErrRange,
		}},
		{l, map[string]api.Errno{
			"start 1 q d": api.ErrExists, "start 2 q d": api.ErrExists, "start 3 q c": api.ErrMissing, "start 3 r d": api.ErrMissing, "start 0 r c": api.OK, "start 1000000 r c": api.OK, "start 1000001 r c": api.ErrRange,
			"good 1": api.ErrRefused, "good 2": api.ErrRefused, "good 3": api.ErrMissing, "good 9999999": api.ErrMissing,
			"bad 1": api.OK, "bad 2": api.ErrState, "bad 9999999": api.ErrMissing, "mark 2": api.ErrState, "mark 1": api.OK, "mark 9999999": api.ErrMissing,
			"coil c 0": api.ErrExists, "coil d 0": api.ErrRange, "repair c": api.OK, "repair d": api.ErrMissing, "repair r": api.ErrMissing,
			"section 2 x": api.ErrState, "section 3 x": api.ErrMissing, "section 1 x": api.ErrSyntax, "section 1 ": api.ErrSyntax, "section 1 50 10 700 720": api.ErrShape,
			"section 1 50 10 700 720;60 10 400 420": api.ErrBusy, "section 1 50 10 500 520;100 10 400 420": api.ErrNone, "section 1 50 10 700 720;100 10 600 620": api.ErrOpen, "section 1 " + deep: api.OK,
			"model 1": api.ErrDouble, "model 2": api.OK, "model 3": api.ErrMissing, "learn 0": api.OK, "learn 1": api.ErrRange,
		}},
		{inside, map[string]api.Errno{"good 2": api.OK, "bad 2": api.OK, "mark 2": api.OK, "model 2": api.OK, "section 2 " + deep: api.OK}},
		{under, map[string]api.Errno{
			"start 3 q d": api.ErrExists, "start 4 q d": api.ErrMissing, "start 4 r e": api.ErrMissing, "start 4 r d": api.ErrBusy, "start 4 r c": api.ErrBusy,
			"frame 0 10": api.OK, "frame 0 11": api.ErrClash, "frame 0 -10": api.ErrClash, "frame 1 11": api.OK, "frame": api.ErrSyntax, "frame ": api.ErrSyntax, "frame x": api.ErrSyntax, "frame 0  10": api.ErrSyntax, "frame 0 10 ": api.ErrSyntax,
			"frame 2 10": api.ErrRange, "frame 0": api.ErrShape, "frame 0 10 10": api.ErrShape, "frame 0 1000001": api.ErrRange, "frame 1 -1000000": api.OK,
			"good 3": api.ErrRefused, "bad 3": api.ErrState, "mark 3": api.OK, "model 3": api.ErrState, "section 3 x": api.ErrState, "section 1 " + deep: api.OK,
			"repair d": api.ErrBusy, "repair c": api.OK, "end": api.OK, "recipe r " + phases: api.OK,
		}},
		{worn, map[string]api.Errno{"start 4 q c": api.ErrBreak, "start 4 r c": api.ErrBreak, "start 3 q c": api.ErrExists, "start 4 s c": api.ErrMissing, "model 3": api.ErrGap, "repair c": api.OK}},
		{joined(worn, byEva("coil d 9", "start 4 r d")...), map[string]api.Errno{"start 5 r c": api.ErrBusy, "repair c": api.OK}},
		{joined(l, byEva("mark 1")...), map[string]api.Errno{"mark 1": api.ErrState, "bad 1": api.OK, "section 1 " + deep: api.OK, "good 1": api.ErrRefused}},
		{joined(l, byEva("bad 1")...), map[string]api.Errno{"bad 1": api.ErrState, "mark 1": api.ErrState, "model 1": api.ErrDouble, "section 1 x": api.ErrState}},
		{joined(l, byEva("section 1 "+deep)...), map[string]api.Errno{"bad 1": api.ErrState, "good 1": api.ErrRefused, "mark 1": api.ErrState, "section 1 " + deep: api.ErrState, "model 1": api.ErrDouble}},
	}
}

// P10.2: the errors of the table
func TestErrorsOfTexts(t *testing.T) {
	for _, x := range allWrong() {
		for text, f := range x.errors {
			tried(t, exampleNet(), x.l, "eva", text, f)
		}
	}
}

// P10.2: no more than 12 parts, 4 coils and 6 versions of recipes, which is found last
func TestFull(t *testing.T) {
	coils := byEva("coil a 12", "coil b 1", "coil c 1")
	tried(t, exampleNet(), coils, "eva", "coil d 1", api.OK)
	coils = joined(coils, byEva("coil d 1")...)
	for text, f := range map[string]api.Errno{"coil e 1": api.ErrFull, "coil a 1": api.ErrExists, "coil e 0": api.ErrRange, "coil 1 1": api.ErrName} {
		tried(t, exampleNet(), coils, "eva", text, f)
	}
	l := joined(coils, byEva("recipe r "+phases, "recipe q "+phases, "recipe r "+phases, "recipe r "+phases, "recipe s "+phases)...)
	tried(t, exampleNet(), l, "eva", "recipe r "+phases, api.OK)
	l = joined(l, byEva("recipe r "+phases)...)
	for text, f := range map[string]api.Errno{"recipe r " + phases: api.ErrFull, "recipe t " + phases: api.ErrFull, "recipe t x": api.ErrSyntax, "recipe 1 " + phases: api.ErrName} {
		tried(t, exampleNet(), l, "eva", text, f)
	}
	for number := range 11 {
		l = joined(l, byEva(cycle(number, "r", "a")...)...)
	}
	tried(t, exampleNet(), l, "eva", "start 12 r a", api.OK)
	tried(t, exampleNet(), joined(l, byEva("start 12 r a")...), "eva", "start 13 r a", api.ErrBusy)
	l = joined(l, byEva(cycle(12, "r", "a")...)...)
	for text, f := range map[string]api.Errno{"start 13 r b": api.ErrFull, "start 13 r a": api.ErrBreak, "start 12 r a": api.ErrExists, "start 1000001 r a": api.ErrRange, "start 13 x b": api.ErrMissing} {
		tried(t, exampleNet(), l, "eva", text, f)
	}
}

// P10.2, example 10: a coil is used up
func TestLives(t *testing.T) {
	l := exampleLog()
	l = joined(l, byEva(cycle(3, "r", "c")...)...)
	tried(t, exampleNet(), l, "ola", "start 4 r c", api.ErrBreak)
	tried(t, exampleNet(), joined(l, byEva("repair c")...), "ola", "start 4 r c", api.OK)
	tried(t, exampleNet(), byEva("coil c 1", "recipe r "+phases), "ola", "start 4 r c", api.OK)
	tried(t, exampleNet(), byEva(append([]string{"coil c 1", "recipe r " + phases}, cycle(1, "r", "c")...)...), "ola", "start 4 r c", api.ErrBreak)
}
