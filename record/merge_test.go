package record_test

import (
	"math/rand"
	"slices"
	"testing"

	"martensite/api"
	"martensite/record"
)

// merged wants a merged log, and the indexes that are refused.
func merged(t *testing.T, a, b, l []api.RecordEntry, refused ...int) {
	t.Helper()
	m, i, e := record.Merged(exampleNet(), a, b)
	want(t, "Merged", m, e, l, api.OK)
	want(t, "what is refused", i, e, refused, api.OK)
}

// P10.6, P10.14
func TestMerged(t *testing.T) {
	l := exampleLog()
	for i := range len(l) + 1 {
		merged(t, l, l[:i], l)
		merged(t, l[:i], l, l)
	}
	made := l[:2]
	start, end, note := entry(3, "ola", "start 1 r c"), entry(3, "ola", "end"), entry(3, "gus", "note x")
	next, nextEnd, bad := entry(4, "ola", "start 2 r c"), entry(4, "ola", "end"), entry(4, "ola", "bad 1")
	merged(t, l[:3], joined(made, start, end), joined(l[:3], end), 2)
	merged(t, l[:3], joined(made, start, end, note, next, nextEnd, bad), joined(l[:3], end, note, next, nextEnd, bad), 2)
	merged(t, joined(made, start, end, bad), joined(made, entry(4, "ola", "start 1 r c"), nextEnd, entry(4, "gus", "note x"), bad), joined(made, start, end, bad, entry(4, "gus", "note x")), 2, 3, 5)
}

// P10.6: what is equal after the common beginning is an entry like others; what is too early is refused
func TestMergedOrders(t *testing.T) {
	x, y, z := entry(1, "gus", "note x"), entry(1, "gus", "note y"), entry(2, "gus", "note x")
	merged(t, log(x, y), log(y, x), log(x, y, y, x))
	merged(t, log(x), log(x, x), log(x, x))
	merged(t, log(x, x), log(x), log(x, x))
	merged(t, log(x, y), log(x, x), log(x, y, x))
	merged(t, log(z), log(x, z), log(z, z), 0)
	merged(t, log(z), log(x, y), log(z), 0, 1)
	merged(t, nil, log(x, y), log(x, y))
	merged(t, log(x, y), nil, log(x, y))
	merged(t, nil, nil, nil)
	merged(t, log(x), log(entry(1, "ola", "note x")), log(x, entry(1, "ola", "note x")))
	full := slices.Repeat(log(x), 60)
	merged(t, full, log(z, z), full, 0, 1)
	merged(t, full[:59], log(z, z), joined(full[:59], z), 1)
	merged(t, log(z), full, log(z), full60()...)
}

// full60 are the numbers from 0 to 59.
func full60() []int {
	var l []int
	for i := range 60 {
		l = append(l, i)
	}
	return l
}

// P10.6: the errors of both logs
func TestErrorsOfMerged(t *testing.T) {
	for _, x := range allBadLogs() {
		for _, y := range allBadLogs() {
			l, i, e := record.Merged(exampleNet(), x.l, y.l)
			want(t, "Merged", l, e, log(), x.e)
			want(t, "Merged", i, e, ints(), x.e)
		}
		l, i, e := record.Merged(exampleNet(), exampleLog(), x.l)
		want(t, "Merged", l, e, log(), x.e)
		want(t, "Merged", i, e, ints(), x.e)
	}
}

// isValid is whether a log is valid.
func isValid(n api.RecordNet, l []api.RecordEntry) bool {
	_, e := record.CheckLog(n, l)
	return e == api.OK
}

// P10.6, P10.14: random logs with a common beginning, of which each entry is appended if it can be
func TestMergedByDefinition(t *testing.T) {
	someRefused := false
	pasts(60, func(random *rand.Rand, p past) {
		begun := p.until(random.Intn(len(p.l) + 1))
		a, b := grown(random, begun, random.Intn(40)).l, grown(random, begun, random.Intn(40)).l
		same := 0
		for same < min(len(a), len(b)) && a[same] == b[same] {
			same++
		}
		l, refused := a, ints()
		for i := same; i < len(b); i++ {
			if more := joined(l, b[i]); isValid(p.n, more) {
				l = more
			} else {
				refused = append(refused, i)
			}
		}
		someRefused = someRefused || len(refused) > 0 && len(l) > len(a)
		m, i, e := record.Merged(p.n, a, b)
		want(t, "Merged", m, e, l, api.OK)
		want(t, "what is refused", i, e, refused, api.OK)
	})
	want(t, "whether there are logs of which a part is refused", someRefused, api.OK, true, api.OK)
}

// R3: the merged log is new memory
func TestMemoryOfMerged(t *testing.T) {
	a := append(make([]api.RecordEntry, 0, 20), exampleLog()[:5]...)
	m, _, _ := record.Merged(exampleNet(), a, exampleLog())
	want(t, "what is behind the log", a[:6][5], api.OK, api.RecordEntry{}, api.OK)
	m[0].Text = "x"
	want(t, "the log", a, api.OK, exampleLog()[:5], api.OK)
	m, _, _ = record.Merged(exampleNet(), a, a)
	m[0].Text = "x"
	want(t, "the log", a, api.OK, exampleLog()[:5], api.OK)
}
