package record_test

import (
	"fmt"
	"math/rand"
	"slices"
	"strings"
	"testing"

	"martensite/api"
	"martensite/record"
)

// asked wants the answer to a question about a log of the example's net, and the same of a desk with this log.
func asked(t *testing.T, l []api.RecordEntry, question, answer string, f api.Errno) {
	t.Helper()
	s, e := record.Answer(exampleNet(), l, question)
	want(t, question, s, e, answer, f)
	d, _ := record.New(exampleNet())
	for _, x := range l {
		d.Enter(x.At, x.By, x.Text)
	}
	s, e = d.Answer(question)
	want(t, question, s, e, answer, f)
}

// P10.6, example 2
func TestAnswer(t *testing.T) {
	for question, answer := range map[string]string{"count": "13", "inside": "1", "part 2": "r 1 c 2 0", "part 1": "r 1 c 1 0", "shots c": "2", "version r": "1"} {
		asked(t, exampleLog(), question, answer, api.OK)
	}
	asked(t, nil, "count", "0", api.OK)
	asked(t, nil, "inside", "-", api.OK)
	asked(t, exampleLog()[:12], "inside", "1 2", api.OK)
	asked(t, joined(exampleLog(), byEva("bad 1")...), "inside", "-", api.OK)
	l := byEva(slices.Concat([]string{"recipe r " + phases, "recipe q-1 " + phases, "coil c 9", "coil abcdefghijkl 9", "recipe r " + phases}, cycle(5, "r", "c", 1), cycle(3, "r", "c", 1, 2), cycle(1000000, "q-1", "c"), []string{"section 3 " + deep, "recipe r " + phases, "start 0 r abcdefghijkl"})...)
	for question, answer := range map[string]string{
		"count": fmt.Sprint(len(l)), "inside": "5 1000000 0", "part 5": "r 2 c 1 1", "part 3": "r 2 c 4 0", "part 1000000": "q-1 1 c 1 1", "part 0": "r 3 abcdefghijkl 0 0",
		"shots c": "3", "shots abcdefghijkl": "1", "version r": "3", "version q-1": "1",
	} {
		asked(t, l, question, answer, api.OK)
	}
	asked(t, joined(l, byEva("repair c")...), "shots c", "0", api.OK)
}

// P10.6: the errors of questions
func TestErrorsOfAnswer(t *testing.T) {
	for _, question := range []string{
		"", " ", "count ", "count 1", " count", "Count", "counts", "inside ", "inside 1", "Inside", "part", "shots", "version", "part ", "part  1", "part 1 ", "part 1 2", "parts 1", "Part 1", " part 1", "shot c", "shotsc", "versions r", "place 1", "part1", "part\n1",
	} {
		asked(t, exampleLog(), question, "", api.ErrSyntax)
	}
	for _, s := range noNumbers() {
		asked(t, exampleLog(), "part "+s, "", api.ErrSyntax)
	}
	for question, f := range map[string]api.Errno{
		"part 0": api.ErrMissing, "part 3": api.ErrMissing, "part 1000000": api.ErrMissing, "part 1000001": api.ErrRange, "part 9999999": api.ErrRange,
		"shots d": api.ErrMissing, "shots r": api.ErrMissing, "shots C": api.ErrMissing, "version c": api.ErrMissing, "version q": api.ErrMissing, "version abcdefghijkl": api.ErrMissing,
	} {
		asked(t, exampleLog(), question, "", f)
	}
	for _, s := range append(noNames(), "", " ", " c", "c ", "c c", "r r", "\u00e9", "c\n") {
		asked(t, exampleLog(), "shots "+s, "", api.ErrName)
		asked(t, exampleLog(), "version "+s, "", api.ErrName)
	}
}

// P10.6: random logs by the definitions
func TestAnswersByDefinition(t *testing.T) {
	pasts(40, func(_ *rand.Rand, p past) {
		answers := map[string]string{"count": fmt.Sprint(len(p.l)), "inside": "-"}
		var inside []string
		for _, number := range p.numbers() {
			x := p.part(number)
			answers["part "+number] = fmt.Sprint(x.Recipe, " ", x.Version, " ", x.Coil, " ", x.Place, " ", x.Verdict)
			if p.gone(number) < 0 {
				inside = append(inside, number)
			}
		}
		if len(inside) > 0 {
			answers["inside"] = strings.Join(inside, " ")
		}
		s := p.state()
		for _, c := range s.Coils {
			answers["shots "+c.Name] = fmt.Sprint(c.Shots)
		}
		for _, r := range s.Recipes {
			answers["version "+r.Recipe] = fmt.Sprint(r.Version)
		}
		for question, answer := range answers {
			got, e := record.Answer(p.n, p.l, question)
			want(t, question, got, e, answer, api.OK)
		}
	})
}
