package record_test

import (
	"slices"
	"testing"

	"martensite/api"
	"martensite/record"
)

// deskOf is a desk with the example's net and a log.
func deskOf(t *testing.T, l []api.RecordEntry) *record.Desk {
	t.Helper()
	d, e := record.New(exampleNet())
	want(t, "New", d != nil, e, true, api.OK)
	for _, x := range l {
		want(t, "Enter "+x.Text, 0, d.Enter(x.At, x.By, x.Text), 0, api.OK)
	}
	return d
}

// P10.7
func TestDesk(t *testing.T) {
	d := deskOf(t, nil)
	want(t, "Log", d.Log(), api.OK, log(), api.OK)
	want(t, "Undo", 0, d.Undo(), 0, api.ErrNone)
	want(t, "Journal", d.Journal(api.RecordOld), api.OK, "1\n", api.OK)
	want(t, "Journal", d.Journal(api.RecordNew), api.OK, "2\n", api.OK)
	d = deskOf(t, exampleLog())
	want(t, "Log", d.Log(), api.OK, exampleLog(), api.OK)
	for _, format := range ints(api.RecordOld, api.RecordNew) {
		s, e := record.Journal(exampleNet(), exampleLog(), format)
		want(t, "Journal", d.Journal(format), api.OK, s, e)
	}
	for _, format := range append(extremes(), -1, 0, 3) {
		want(t, "Journal", d.Journal(format), api.OK, "", api.OK)
	}
	want(t, "Undo", 0, d.Undo(), 0, api.OK)
	want(t, "Log", d.Log(), api.OK, exampleLog()[:12], api.OK)
	answer, e := d.Answer("part 2")
	want(t, "Answer", answer, e, "r 1 c 1 0", api.OK)
	want(t, "Enter", 0, d.Enter(9, "ola", "bad 2"), 0, api.OK)
	answer, e = d.Answer("part 2")
	want(t, "Answer", answer, e, "r 1 c 3 0", api.OK)
	for range 13 {
		want(t, "Undo", 0, d.Undo(), 0, api.OK)
	}
	want(t, "Undo", 0, d.Undo(), 0, api.ErrNone)
	want(t, "Enter", 0, d.Enter(0, "gus", "note x"), 0, api.OK)
	want(t, "Log", d.Log(), api.OK, log(entry(0, "gus", "note x")), api.OK)
}

// P10.7: with an error nothing changes
func TestErrorsOfDesks(t *testing.T) {
	for _, x := range allBadLogs() {
		if x.index == 1 {
			d := deskOf(t, x.l[:1])
			want(t, "Enter", 0, d.Enter(x.l[1].At, x.l[1].By, x.l[1].Text), 0, x.e)
			want(t, "Log", d.Log(), api.OK, x.l[:1], api.OK)
		}
	}
	for _, x := range allWrong() {
		d := deskOf(t, x.l)
		before, _ := record.StateOf(exampleNet(), x.l)
		for text, f := range x.errors {
			want(t, text, 0, d.Enter(9, "eva", text), 0, f)
			if f == api.OK {
				want(t, "Undo", 0, d.Undo(), 0, api.OK)
			}
			want(t, "Log", d.Log(), api.OK, x.l, api.OK)
			s, e := record.StateOf(exampleNet(), d.Log())
			want(t, "StateOf", s, e, before, api.OK)
		}
	}
	d := deskOf(t, slices.Repeat(log(entry(0, "gus", "note x")), 60))
	want(t, "Enter", 0, d.Enter(-1, "", ""), 0, api.ErrLarge)
	want(t, "Undo", 0, d.Undo(), 0, api.OK)
	want(t, "Enter", 0, d.Enter(0, "gus", "note y"), 0, api.OK)
}

// R5
func TestNilDesk(t *testing.T) {
	var d *record.Desk
	want(t, "Enter", 0, d.Enter(-1, "", ""), 0, api.ErrNil)
	want(t, "Undo", 0, d.Undo(), 0, api.ErrNil)
	want(t, "Log", d.Log(), api.OK, log(), api.OK)
	for _, question := range []string{"", "count"} {
		s, e := d.Answer(question)
		want(t, "Answer", s, e, "", api.ErrNil)
	}
	for format := range 4 {
		want(t, "Journal", d.Journal(format), api.OK, "", api.OK)
	}
}

// R2: a desk that New did not make has a net without people
func TestEmptyDesk(t *testing.T) {
	var d record.Desk
	want(t, "Enter", 0, d.Enter(0, "gus", "note x"), 0, api.ErrShape)
	want(t, "Undo", 0, d.Undo(), 0, api.ErrNone)
	want(t, "Log", d.Log(), api.OK, log(), api.OK)
	s, e := d.Answer("count")
	want(t, "Answer", s, e, "", api.ErrShape)
}

// R3: a desk keeps nothing of its net, and gives nothing of its log; a desk does not know of another one
func TestMemoryOfDesks(t *testing.T) {
	n := exampleNet()
	d, _ := record.New(n)
	other, _ := record.New(n)
	for i := range n.People {
		n.People[i] = person("x", 0)
	}
	for _, x := range exampleLog() {
		want(t, "Enter", 0, d.Enter(x.At, x.By, x.Text), 0, api.OK)
	}
	l := d.Log()
	for i := range l {
		l[i] = api.RecordEntry{}
	}
	want(t, "Log", d.Log(), api.OK, exampleLog(), api.OK)
	want(t, "Log", other.Log(), api.OK, log(), api.OK)
	before := d.Log()
	d.Undo()
	d.Enter(9, "ola", "bad 2")
	want(t, "an earlier log", before, api.OK, exampleLog(), api.OK)
}
