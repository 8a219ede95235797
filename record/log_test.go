package record_test

import (
	"slices"
	"strings"
	"testing"

	"martensite/api"
	"martensite/record"
)

// badLog is a log with an error, and its index.
type badLog struct {
	l     []api.RecordEntry
	index int
	e     api.Errno
}

// allBadLogs are logs with errors that are not those of the table of texts.
func allBadLogs() []badLog {
	note := entry(5, "gus", "note x")
	long := "note " + strings.Repeat("x", 596)
	second := func(at int, by, text string, e api.Errno) badLog {
		return badLog{log(note, entry(at, by, text), entry(-1, "", "")), 1, e}
	}
	l := []badLog{
		{slices.Repeat(log(note), 61), 0, api.ErrLarge},
		{slices.Repeat(log(entry(-1, "", "")), 61), 0, api.ErrLarge},
		{log(entry(-1, "", "")), 0, api.ErrMissing},
		{log(entry(-1, "ola", "\n")), 0, api.ErrRange},
		second(-1, "", long+"\n", api.ErrMissing),
		second(5, "Ola", "note ", api.ErrMissing),
		second(5, "ola ", "note ", api.ErrMissing),
		second(5, "ol", "note ", api.ErrMissing),
		second(-1, "ola", long+"\n", api.ErrRange),
		second(4, "ola", long+"\n", api.ErrOrder),
		second(0, "ola", "note ", api.ErrOrder),
		second(5, "ola", long+"\n", api.ErrLarge),
		second(5, "ola", "\n"+long, api.ErrLarge),
		second(5, "ola", long, api.ErrLarge),
		second(5, "gus", "start 1\n", api.ErrForm),
		second(5, "gus", "", api.ErrSyntax),
		second(5, "gus", " ", api.ErrSyntax),
		second(5, "gus", "Note x", api.ErrSyntax),
		second(5, "gus", " note x", api.ErrSyntax),
		second(5, "gus", "not x", api.ErrSyntax),
		second(5, "gus", "notes x", api.ErrSyntax),
		second(5, "gus", "start", api.ErrAllowed),
		second(5, "gus", "start 1 r c", api.ErrAllowed),
	}
	for _, at := range append(extremes(), -1, api.MaxTick+1) {
		l = append(l, second(at, "ola", "x", api.ErrRange))
	}
	for _, bad := range []string{"\n", "\x00", "\x1f", "\x7f", "\x80", "\xff", "\u00e9", "\t", "\r"} {
		l = append(l, second(5, "ola", "note "+bad, api.ErrForm), second(5, "ola", bad, api.ErrForm), second(5, "ola", "note x"+bad+"x", api.ErrForm))
	}
	return l
}

// P10.2: the errors of entries before those of the table, and edge case of the empty log
func TestCheckLog(t *testing.T) {
	visible := ""
	for b := byte(32); b <= 126; b++ {
		visible += string(rune(b))
	}
	for _, l := range [][]api.RecordEntry{
		nil, {}, exampleLog(),
		slices.Repeat(log(entry(0, "gus", "note "+visible)), 60),
		log(entry(0, "gus", "note "+strings.Repeat("x", 595))),
		log(entry(0, "gus", "note "), entry(0, "ola", "note  x "), entry(7, "ola", "note "), entry(api.MaxTick, "eva", "note ")),
		log(entry(api.MaxTick, "gus", "note ")),
	} {
		i, e := record.CheckLog(exampleNet(), l)
		want(t, "CheckLog", i, e, 0, api.OK)
	}
	for _, x := range allBadLogs() {
		i, e := record.CheckLog(exampleNet(), x.l)
		want(t, "CheckLog", i, e, x.index, x.e)
	}
	for i := range exampleLog() {
		l := exampleLog()
		l[i].Text = "end "
		index, e := record.CheckLog(exampleNet(), l)
		want(t, "CheckLog", index, e, i, api.ErrSyntax)
	}
}

// P10.2 to P10.6: the error of the log comes after that of the net, without the index
func TestErrorsOfLogs(t *testing.T) {
	for _, x := range allBadLogs() {
		everyCall(t, exampleNet(), x.l, x.e, false)
	}
	for _, text := range []string{"end", "end ", "good 3", "coil c 1", "recipe r x", "learn 1"} {
		l := joined(exampleLog(), byEva(text)...)
		i, e := record.CheckLog(exampleNet(), l)
		want(t, text, i, e, 13, e)
		want(t, "whether it is valid: "+text, e == api.OK, api.OK, false, api.OK)
		everyCall(t, exampleNet(), l, e, false)
	}
}

// P10.2: Appended
func TestAppended(t *testing.T) {
	l := exampleLog()
	more, e := record.Appended(exampleNet(), l, entry(5, "gus", "note x"))
	want(t, "Appended", more, e, joined(l, entry(5, "gus", "note x")), api.OK)
	more, e = record.Appended(exampleNet(), nil, entry(0, "gus", "note x"))
	want(t, "Appended", more, e, log(entry(0, "gus", "note x")), api.OK)
	full := slices.Repeat(log(entry(0, "gus", "note x")), 60)
	more, e = record.Appended(exampleNet(), full[:59], full[59])
	want(t, "Appended", more, e, full, api.OK)
	for _, x := range log(full[0], entry(-1, "", "")) {
		more, e = record.Appended(exampleNet(), full, x)
		want(t, "Appended", more, e, log(), api.ErrLarge)
	}
	for _, x := range allBadLogs() {
		if x.index == 1 {
			more, e = record.Appended(exampleNet(), x.l[:1], x.l[1])
			want(t, "Appended", more, e, log(), x.e)
		}
	}
}

// R3: Appended neither changes the log nor keeps it
func TestMemoryOfAppended(t *testing.T) {
	l := append(make([]api.RecordEntry, 0, 20), exampleLog()...)
	more, _ := record.Appended(exampleNet(), l, entry(6, "gus", "note x"))
	want(t, "what is behind the log", l[:14][13], api.OK, api.RecordEntry{}, api.OK)
	more[0].Text = "x"
	want(t, "the log", l, api.OK, exampleLog(), api.OK)
}
