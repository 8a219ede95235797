package record_test

import (
	"fmt"
	"math"
	"math/rand"
	"slices"
	"strconv"
	"strings"
	"testing"

	"martensite/api"
	"martensite/record"
)

// same compares two values as they are printed, so that nil and empty slices are equal.
func same(a, b any) bool { return fmt.Sprintf("%+v", a) == fmt.Sprintf("%+v", b) }

// want compares a result and an error with those that are expected.
func want(t *testing.T, what string, got any, e api.Errno, value any, f api.Errno) {
	t.Helper()
	if !same(got, value) || e != f {
		t.Errorf("%s: %+v, %d, want %+v, %d", what, got, e, value, f)
	}
}

// span is a range, ints is a list of numbers.
func span(lo, hi int) api.Range { return api.Range{Lo: lo, Hi: hi} }
func ints(numbers ...int) []int { return numbers }
func extremes() []int           { return ints(math.MinInt, math.MaxInt) }

// person is a person with a role.
func person(name string, role int) api.RecordPerson { return api.RecordPerson{Name: name, Role: role} }

// entry is an entry, log is a list of entries.
func entry(at int, by, text string) api.RecordEntry {
	return api.RecordEntry{At: at, By: by, Text: text}
}
func log(l ...api.RecordEntry) []api.RecordEntry { return l }

// joined is a log followed by further entries, in new memory.
func joined(l []api.RecordEntry, more ...api.RecordEntry) []api.RecordEntry {
	return slices.Concat(l, more)
}

// version is a version of a recipe, frame is a frame.
func version(recipe string, n int) api.RecordVersion {
	return api.RecordVersion{Recipe: recipe, Version: n}
}
func frame(tick int, values ...int) api.MonitorFrame {
	return api.MonitorFrame{Tick: tick, Values: values}
}

// These are a recipe, and sections whose case depth for 550 is 225/2 to 235/2, and 325/3 to 335/3.
const (
	phases  = "heat 400 2;quench 1 3"
	deep    = "50 10 700 720;100 12 600 620;150 12 400 420"
	shallow = "50 10 700 720;100 12 600 620;150 12 300 320"
)

// exampleNet is the net of the document's examples, exampleLog its log. (gus, who is a guest, is added.)
func exampleNet() api.RecordNet {
	people := []api.RecordPerson{person("ola", api.RecordOperator), person("sem", api.RecordSetter), person("ina", api.RecordInspector), person("eva", api.RecordEngineer), person("gus", api.RecordGuest)}
	return api.RecordNet{People: people, Plan: "2 power", Limit: 550, Case: span(100, 120)}
}
func exampleLog() []api.RecordEntry {
	return log(
		entry(1, "eva", "recipe r "+phases), entry(1, "sem", "coil c 3"),
		entry(2, "ola", "start 1 r c"), entry(2, "ola", "frame 0 10"), entry(3, "ola", "frame 1 12"), entry(3, "ola", "end"),
		entry(4, "eva", "model 1"), entry(4, "eva", "learn 0"),
		entry(5, "ola", "start 2 r c"), entry(5, "ola", "frame 1 12"), entry(5, "ola", "frame 0 10"), entry(5, "ola", "end"), entry(5, "ola", "good 2"))
}

// byEva are entries of eva, who may make all, at the time 9; each one is made from a text.
func byEva(texts ...string) []api.RecordEntry {
	var l []api.RecordEntry
	for _, s := range texts {
		l = append(l, entry(9, "eva", s))
	}
	return l
}

// cycle are the texts of a part from its start to its end, which has a frame of each of these values.
func cycle(number int, recipe, coil string, values ...int) []string {
	texts := []string{"start " + strconv.Itoa(number) + " " + recipe + " " + coil}
	for tick, v := range values {
		texts = append(texts, "frame "+strconv.Itoa(tick)+" "+strconv.Itoa(v))
	}
	return append(texts, "end")
}

// noNames are strings that are not names, but words.
func noNames() []string {
	return []string{"1", "-", "-a", "1a", "a_", "abcdefghijklm", "a.", "a;", "[", "@", "`", "{", "a/", "a:", "a@", "a[", "a`", "a{", "a,"}
}

// noNumbers are strings that are not numbers of at most 7 digits without a sign.
func noNumbers() []string {
	return []string{"", "x", "-1", "-0", "+1", "00", "007", "01", "10000000", "00000001", "1.0", "1x", "x1", "1_0", "0x1", "/", ":", "99999999999999999999"}
}

// badNet is a net with an error, and its index.
type badNet struct {
	n     api.RecordNet
	index int
	e     api.Errno
}

// withPeople, withPlan, withLimit and withCase are the example's net with something else.
func withPeople(l ...api.RecordPerson) api.RecordNet {
	n := exampleNet()
	n.People = l
	return n
}
func withPlan(plan string) api.RecordNet {
	n := exampleNet()
	n.Plan = plan
	return n
}
func withLimit(limit int) api.RecordNet {
	n := exampleNet()
	n.Limit = limit
	return n
}
func withCase(lo, hi int) api.RecordNet {
	n := exampleNet()
	n.Case = span(lo, hi)
	return n
}

// everyCall calls each function but CheckNet with a net and a log that have an error, which must be returned with zero values. Only if the error is one of the net, New and Recovered are called, too.
func everyCall(t *testing.T, n api.RecordNet, l []api.RecordEntry, f api.Errno, isNet bool) {
	t.Helper()
	appended, e := record.Appended(n, l, entry(-1, "", ""))
	want(t, "Appended", appended, e, log(), f)
	state, e := record.StateOf(n, l)
	want(t, "StateOf", state, e, api.RecordState{}, f)
	state, e = record.StateAt(n, l, -1)
	want(t, "StateAt", state, e, api.RecordState{}, f)
	part, e := record.PartOf(n, l, -1)
	want(t, "PartOf", part, e, api.RecordPart{}, f)
	history, e := record.HistoryOf(n, l, -1)
	want(t, "HistoryOf", history, e, ints(), f)
	parts, e := record.PartsOf(n, l, version("", 0))
	want(t, "PartsOf", parts, e, ints(), f)
	counts, e := record.CountsOf(n, l)
	want(t, "CountsOf", counts, e, api.RecordCounts{}, f)
	may, e := record.MayLeave(n, l, -1)
	want(t, "MayLeave", may, e, false, f)
	journal, e := record.Journal(n, l, 0)
	want(t, "Journal", journal, e, "", f)
	answer, e := record.Answer(n, l, "")
	want(t, "Answer", answer, e, "", f)
	merged, refused, e := record.Merged(n, l, log(entry(-1, "", "")))
	want(t, "Merged", merged, e, log(), f)
	want(t, "Merged", refused, e, ints(), f)
	merged, refused, e = record.Merged(n, nil, l)
	want(t, "Merged", merged, e, log(), f)
	want(t, "Merged", refused, e, ints(), f)
	if !isNet {
		return
	}
	back, bytes, e := record.Recovered(n, strings.Repeat("x", api.MaxString+1))
	want(t, "Recovered", back, e, log(), f)
	want(t, "Recovered", bytes, e, 0, f)
	desk, e := record.New(n)
	want(t, "New", desk == nil, e, true, f)
}

// someNumber is a random number from lo to hi.
func someNumber(random *rand.Rand, lo, hi int) int { return lo + random.Intn(hi-lo+1) }

// oneOf is one of several strings.
func oneOf(random *rand.Rand, l ...string) string { return l[random.Intn(len(l))] }
