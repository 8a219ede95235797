package record_test

import (
	"fmt"
	"math/rand"
	"slices"
	"strconv"
	"testing"

	"martensite/api"
	"martensite/monitor"
	"martensite/record"
)

// grown is a past with further random entries, as many as are accepted of so many.
func grown(random *rand.Rand, p past, count int) past {
	at := 0
	if len(p.l) > 0 {
		at = p.l[len(p.l)-1].At
	}
	for range count {
		at += random.Intn(2) * random.Intn(2)
		if l, e := record.Appended(p.n, p.l, entry(at, "eva", tryText(random, p))); e == api.OK {
			p.l = l
		}
	}
	return p
}

// pasts calls a function with random valid logs.
func pasts(count int, do func(*rand.Rand, past)) {
	random := rand.New(rand.NewSource(10))
	for i := range count {
		p := past{n: []api.RecordNet{exampleNet(), withCase(115, 120), withPlan("3 power")}[i%3]}
		p.l = log(entry(0, "eva", "recipe r "+phases), entry(0, "eva", "coil c 9"))
		do(random, grown(random, p, 3*api.MaxRecordEntries))
	}
}

// P10.3, P10.4, examples 1 to 4: the parts of the document's examples
func TestParts(t *testing.T) {
	n, l := exampleNet(), exampleLog()
	s, e := record.StateOf(n, l)
	steps := []api.RecipePhase{{Kind: api.RecipeHeat, Power: 400, Ticks: 2}, {Kind: api.RecipeQuench, Law: 1, Ticks: 3}}
	one := api.RecordPart{Number: 1, RecordVersion: version("r", 1), Coil: "c", Frames: []api.MonitorFrame{frame(0, 10), frame(1, 12)}, Place: api.RecordInside}
	two := api.RecordPart{Number: 2, RecordVersion: version("r", 1), Coil: "c", Frames: []api.MonitorFrame{frame(1, 12), frame(0, 10)}, Place: api.RecordGood, Judged: true}
	want(t, "StateOf", s, e, api.RecordState{
		Recipes:  []api.RecordRecipe{{RecordVersion: version("r", 1), Phases: steps}},
		Coils:    []api.RecordCoil{{Name: "c", Life: 3, Shots: 2}},
		Parts:    []api.RecordPart{one, two},
		Models:   ints(1),
		Envelope: api.MonitorEnvelope{Parts: 1, Rows: [][]api.Range{{span(10, 10)}, {span(12, 12)}}},
	}, api.OK)
	for number, part := range map[int]api.RecordPart{1: one, 2: two} {
		p, e := record.PartOf(n, l, number)
		want(t, "PartOf", p, e, part, api.OK)
	}
	for text, verdict := range map[string]int{"frame 0 11": api.MonitorSpoilt, "note ": api.MonitorLost} {
		l := exampleLog()[:12]
		l[10].Text = text
		p, e := record.PartOf(n, l, 2)
		want(t, text, p.Verdict, e, verdict, api.OK)
		want(t, text, p.Judged, e, true, api.OK)
		tried(t, n, l, "ola", "good 2", api.ErrRefused)
		may, e := record.MayLeave(n, l, 2)
		want(t, text, may, e, false, api.OK)
	}
	s, e = record.StateOf(n, nil)
	want(t, "StateOf", s, e, api.RecordState{}, api.OK)
}

// P10.2, P10.4: a frame that is repeated, edge case; the verdict of parts that are not judged
func TestFrames(t *testing.T) {
	l := exampleLog()[:4]
	l = joined(l, byEva("frame 0 10", "frame 1 12", "frame 0 10", "end")...)
	p, e := record.PartOf(exampleNet(), l, 1)
	want(t, "the frames", p.Frames, e, []api.MonitorFrame{frame(0, 10), frame(1, 12)}, api.OK)
	h, e := record.HistoryOf(exampleNet(), l, 1)
	want(t, "the history", h, e, ints(0, 1, 2, 3, 4, 5, 6, 7), api.OK)
	for count, verdict := range ints(api.MonitorGood, api.MonitorLost, api.MonitorLost, api.MonitorGood) {
		texts := append([]string{"recipe r " + phases, "coil c 3"}, cycle(1, "r", "c", ints(10, 12)[:max(count-1, 0)]...)...)
		if count == 0 {
			texts = texts[:len(texts)-1]
		}
		p, e := record.PartOf(exampleNet(), byEva(texts...), 1)
		want(t, "the verdict", p.Verdict, e, verdict, api.OK)
		want(t, "whether it was judged", p.Judged, e, false, api.OK)
	}
}

// P10.2, examples 5 and 6, edge case of versions: sections
func TestSections(t *testing.T) {
	part := func(n api.RecordNet, l []api.RecordEntry, number int) api.RecordPart {
		p, e := record.PartOf(n, l, number)
		want(t, "PartOf", 0, e, 0, api.OK)
		return p
	}
	frac := func(num, den int) api.Frac { return api.Frac{Num: num, Den: den} }
	for text, depth := range map[string]api.Span{deep: {Lo: frac(225, 2), Hi: frac(235, 2)}, shallow: {Lo: frac(325, 3), Hi: frac(335, 3)}} {
		p := part(exampleNet(), joined(exampleLog(), byEva("section 1 "+text)...), 1)
		want(t, "the depth", p.Depth, api.OK, depth, api.OK)
		want(t, "the place", p.Place, api.OK, api.RecordCut, api.OK)
		want(t, "whether it is marked", p.Marked, api.OK, false, api.OK)
	}
	l := exampleLog()[:12]
	l = joined(l, byEva("recipe q "+phases)...)
	l = joined(l, byEva(cycle(3, "q", "c")...)...)
	l = joined(l, byEva("recipe r "+phases, "coil d 9")...)
	l = joined(l, byEva(cycle(4, "r", "d")...)...)
	l = joined(l, byEva(append(cycle(6, "r", "d"), "bad 6", "start 5 r d")...)...)
	for _, x := range []struct {
		lo, hi, cut int
		marked      []int
	}{
		{112, 118, 1, nil}, {113, 118, 1, ints(2)}, {112, 117, 1, ints(2)}, {0, 112, 1, ints(2)}, {118, 200, 1, ints(2)}, {0, 10000, 1, nil},
		{113, 118, 4, ints(5)}, {112, 117, 4, ints(5)}, {112, 118, 4, nil}, {113, 118, 3, nil}, {113, 118, 2, ints(1)},
	} {
		n := withCase(x.lo, x.hi)
		after := joined(l, byEva("section "+strconv.Itoa(x.cut)+" "+deep)...)
		for number := range 6 {
			if p := part(n, after, number+1); p.Marked != slices.Contains(x.marked, number+1) {
				t.Errorf("%v: the part %d: %v", x, number+1, p.Marked)
			}
			h, e := record.HistoryOf(n, after, number+1)
			isConcerned := number+1 == x.cut || slices.Contains(x.marked, number+1)
			want(t, "whether the section is in the history", slices.Contains(h, len(l)), e, isConcerned, api.OK)
		}
	}
	whole := "section 1 100 10 550 550;200 10 549 549"
	for _, n := range []api.RecordNet{withCase(100, 100), withCase(0, 100), withCase(100, 200)} {
		want(t, "at the ends of the range", part(n, joined(l, byEva(whole)...), 2).Marked, api.OK, false, api.OK)
	}
	for _, n := range []api.RecordNet{withCase(101, 101), withCase(0, 99)} {
		want(t, "next to the ends of the range", part(n, joined(l, byEva(whole)...), 2).Marked, api.OK, true, api.OK)
	}
}

// P10.4: a section concerns parts that are marked already, too, and those that are marked by several
func TestHistoriesOfMarkedParts(t *testing.T) {
	l := byEva(slices.Concat([]string{"recipe r " + phases, "coil c 9"}, cycle(1, "r", "c"), cycle(2, "r", "c"), cycle(3, "r", "c"), []string{"mark 3", "section 1 " + deep, "section 2 " + deep, "bad 3"})...)
	for number, history := range map[int][]int{1: ints(0, 1, 2, 3, 9), 2: ints(0, 1, 4, 5, 9, 10), 3: ints(0, 1, 6, 7, 8, 9, 10, 11)} {
		h, e := record.HistoryOf(withCase(0, 1), l, number)
		want(t, "HistoryOf", h, e, history, api.OK)
	}
	l = byEva(slices.Concat([]string{"coil c 9", "coil d 9", "repair c", "recipe q " + phases, "recipe r " + phases, "recipe r " + phases}, cycle(1, "r", "d"), []string{"repair d", "note 1", "recipe r " + phases})...)
	h, e := record.HistoryOf(withCase(0, 1), l, 1)
	want(t, "HistoryOf", h, e, ints(1, 5, 6, 7), api.OK)
}

// P10.2, edge cases: a recipe that changes, an envelope that comes too late, models that were cut or left, marked parts
func TestEdges(t *testing.T) {
	l := joined(exampleLog(), byEva("start 3 r c", "recipe r "+phases, "end")...)
	p, e := record.PartOf(exampleNet(), l, 3)
	want(t, "the version", p.Version, e, 1, api.OK)
	tried(t, exampleNet(), exampleLog(), "ola", "good 1", api.ErrRefused)
	tried(t, exampleNet(), joined(exampleLog(), byEva("learn 0")...), "ola", "good 1", api.ErrRefused)
	tried(t, exampleNet(), exampleLog(), "eva", "model 2", api.OK)
	tried(t, exampleNet(), joined(exampleLog()[:12], byEva("section 2 "+deep)...), "eva", "model 2", api.OK)
	tried(t, exampleNet(), joined(exampleLog()[:12], byEva("bad 2")...), "eva", "model 2", api.OK)
	marked := joined(exampleLog()[:12], byEva("mark 2")...)
	tried(t, exampleNet(), marked, "ola", "good 2", api.ErrRefused)
	tried(t, exampleNet(), marked, "ola", "bad 2", api.OK)
	tried(t, exampleNet(), joined(exampleLog()[:10], byEva("mark 2", "frame 0 10", "end")...), "ola", "good 2", api.ErrRefused)
}

// P10.3: StateAt
func TestStateAt(t *testing.T) {
	for at, count := range ints(0, 2, 4, 6, 8, 13, 13) {
		before, e := record.StateOf(exampleNet(), exampleLog()[:count])
		s, f := record.StateAt(exampleNet(), exampleLog(), at)
		want(t, "StateAt", s, f, before, e)
	}
	all, e := record.StateOf(exampleNet(), exampleLog())
	s, f := record.StateAt(exampleNet(), exampleLog(), api.MaxTick)
	want(t, "StateAt", s, f, all, e)
	for _, at := range append(extremes(), -1, api.MaxTick+1) {
		s, e := record.StateAt(exampleNet(), exampleLog(), at)
		want(t, "StateAt", s, e, api.RecordState{}, api.ErrRange)
	}
}

// P10.4: the errors of numbers and versions
func TestErrorsOfNumbers(t *testing.T) {
	n, l := exampleNet(), exampleLog()
	for number, f := range map[int]api.Errno{extremes()[0]: api.ErrRange, extremes()[1]: api.ErrRange, -1: api.ErrRange, 1000001: api.ErrRange, 0: api.ErrMissing, 3: api.ErrMissing, 1000000: api.ErrMissing} {
		p, e := record.PartOf(n, l, number)
		want(t, "PartOf", p, e, api.RecordPart{}, f)
		h, e := record.HistoryOf(n, l, number)
		want(t, "HistoryOf", h, e, ints(), f)
		may, e := record.MayLeave(n, l, number)
		want(t, "MayLeave", may, e, false, f)
	}
	for _, x := range []api.RecordVersion{version("r", 0), version("r", 2), version("q", 1), version("", 1), version("r", -1), version("R", 1)} {
		p, e := record.PartsOf(n, l, x)
		want(t, "PartsOf", p, e, ints(), api.ErrMissing)
	}
	p, e := record.PartsOf(n, l, version("r", 1))
	want(t, "PartsOf", p, e, ints(1, 2), api.OK)
	p, e = record.PartsOf(n, l[:1], version("r", 1))
	want(t, "PartsOf", p, e, ints(), api.OK)
	p, e = record.PartsOf(n, l[:6], version("r", 1))
	want(t, "PartsOf", p, e, ints(1), api.OK)
	l = joined(l[:2], byEva(slices.Concat(cycle(9, "r", "c"), cycle(0, "r", "c"), []string{"recipe r " + phases}, cycle(1000000, "r", "c"))...)...)
	for v, numbers := range [][]int{nil, ints(9, 0), ints(1000000)} {
		if v > 0 {
			p, e = record.PartsOf(n, l, version("r", v))
			want(t, "PartsOf", p, e, numbers, api.OK)
		}
	}
}

// P10.3, example 7
func TestCountsOf(t *testing.T) {
	c, e := record.CountsOf(exampleNet(), exampleLog())
	want(t, "CountsOf", c, e, api.RecordCounts{Started: 2, Inside: 1, Good: 1}, api.OK)
	c, e = record.CountsOf(exampleNet(), nil)
	want(t, "CountsOf", c, e, api.RecordCounts{}, api.OK)
	l := byEva(slices.Concat([]string{"recipe r " + phases, "coil c 99"}, cycle(1, "r", "c", 1, 2), []string{"model 1", "learn 0", "section 1 " + deep}, cycle(2, "r", "c", 1, 2), cycle(3, "r", "c", 1, 2), cycle(4, "r", "c"), cycle(5, "r", "c"), cycle(6, "r", "c"), cycle(7, "r", "c"), cycle(8, "r", "c"), []string{"bad 4", "bad 5", "bad 6", "section 7 " + deep, "section 8 " + deep, "good 2", "good 3", "start 9 r c"})...)
	c, e = record.CountsOf(exampleNet(), l)
	want(t, "CountsOf", c, e, api.RecordCounts{Started: 9, Under: 1, Good: 2, Bad: 3, Cut: 3}, api.OK)
}

// P10.2 to P10.4: random logs, looked through by the definitions
func TestLogsByDefinition(t *testing.T) {
	seen := map[string]int{}
	pasts(150, func(random *rand.Rand, p past) {
		s, e := record.StateOf(p.n, p.l)
		want(t, "StateOf", s, e, p.state(), api.OK)
		at := someNumber(random, 0, 1+p.l[len(p.l)-1].At)
		count := 0
		for count < len(p.l) && p.l[count].At <= at {
			count++
		}
		s, e = record.StateAt(p.n, p.l, at)
		want(t, "StateAt", s, e, p.until(count).state(), api.OK)
		for _, word := range p.numbers() {
			number, _ := strconv.Atoi(word)
			x := p.part(word)
			got, e := record.PartOf(p.n, p.l, number)
			want(t, "PartOf", got, e, x, api.OK)
			h, e := record.HistoryOf(p.n, p.l, number)
			want(t, "HistoryOf", h, e, p.history(word), api.OK)
			may, e := record.MayLeave(p.n, p.l, number)
			want(t, "MayLeave", may, e, p.mayLeave(word), api.OK)
			seen[fmt.Sprint("place ", x.Place)]++
			seen[fmt.Sprint("verdict ", x.Judged, x.Verdict)]++
			seen[fmt.Sprint("marked ", x.Marked)]++
			seen[fmt.Sprint("spoilt by ", min(len(p.spoiling(word)), 2))]++
			seen[fmt.Sprint("may leave ", may)]++
		}
	})
	if len(seen) < 5+5+2+3+2 {
		t.Errorf("not all kinds of parts were tested: %v", seen)
	}
}

// P10.8
func TestBeginnings(t *testing.T) {
	pasts(30, func(_ *rand.Rand, p past) {
		d, _ := record.New(p.n)
		var l []api.RecordEntry
		for i, x := range p.l {
			j, e := record.CheckLog(p.n, p.l[:i])
			want(t, "CheckLog", j, e, 0, api.OK)
			l, e = record.Appended(p.n, l, x)
			want(t, "Appended", l, e, p.l[:i+1], api.OK)
			want(t, "Enter", 0, d.Enter(x.At, x.By, x.Text), 0, api.OK)
			want(t, "Log", d.Log(), api.OK, p.l[:i+1], api.OK)
			s, e := record.StateAt(p.n, l, x.At)
			all, f := record.StateOf(p.n, l)
			want(t, "StateAt", s, e, all, f)
		}
		for i := range p.l {
			want(t, "Undo", 0, d.Undo(), 0, api.OK)
			want(t, "Log", d.Log(), api.OK, p.l[:len(p.l)-1-i], api.OK)
		}
	})
}

// P10.9
func TestGoodParts(t *testing.T) {
	good := 0
	pasts(100, func(_ *rand.Rand, p past) {
		s, _ := record.StateOf(p.n, p.l)
		for _, x := range s.Parts {
			if x.Place != api.RecordGood {
				continue
			}
			good++
			r, e := monitor.RecordOf(p.plan(), x.Frames)
			lost, _ := monitor.LostIn(p.plan(), r)
			want(t, "lost ticks", lost, e, ints(), api.OK)
			before, _ := record.StateOf(p.n, p.l[:p.ended(strconv.Itoa(x.Number))])
			d, e := monitor.DeviationsOf(p.plan(), before.Envelope, r)
			want(t, "deviations", len(d), e, 0, api.OK)
			if !x.Judged || x.Marked {
				t.Errorf("a good part: %+v", x)
			}
		}
	})
	if good == 0 {
		t.Error("no part was good")
	}
}

// isPlain is whether a log has no models, repairs and sections.
func (p past) isPlain() bool {
	return len(p.indexes(0, "model"))+len(p.indexes(0, "repair"))+len(p.indexes(0, "section")) == 0
}

// plain is a past without its models, repairs and sections, and what is refused without them.
func plain(p past) past {
	q := past{n: p.n}
	for _, x := range p.l {
		if !slices.Contains([]string{"model", "repair", "section"}, wordsOf(x.Text)[0]) {
			if l, e := record.Appended(q.n, q.l, x); e == api.OK {
				q.l = l
			}
		}
	}
	return q
}

// without is a state without a part.
func without(s api.RecordState, i int) api.RecordState {
	for j := range s.Coils {
		if s.Coils[j].Name == s.Parts[i].Coil {
			s.Coils[j].Shots--
		}
	}
	s.Parts = slices.Delete(s.Parts, i, i+1)
	return s
}

// P10.10: each part is among those of its version, and its history names it
func TestFromEachNumberAndBack(t *testing.T) {
	pasts(100, func(_ *rand.Rand, p past) {
		s, _ := record.StateOf(p.n, p.l)
		count := 0
		for _, r := range s.Recipes {
			parts, e := record.PartsOf(p.n, p.l, r.RecordVersion)
			count += len(parts)
			for _, number := range parts {
				x, f := record.PartOf(p.n, p.l, number)
				want(t, "the version", x.RecordVersion, f, r.RecordVersion, e)
			}
		}
		want(t, "the parts of all versions", count, api.OK, len(s.Parts), api.OK)
		for _, x := range s.Parts {
			h, _ := record.HistoryOf(p.n, p.l, x.Number)
			for _, i := range h {
				words := wordsOf(p.l[i].Text)
				before, _ := record.PartOf(p.n, p.l[:i], x.Number)
				isNamed := slices.Contains([]string{"start", "good", "bad", "mark", "model", "section"}, words[0]) && words[1] == strconv.Itoa(x.Number)
				isUnder := before.Coil != "" && before.Place == api.RecordUnder
				if !isNamed && !isUnder && !slices.Contains([]string{"recipe", "coil", "section"}, words[0]) {
					t.Errorf("%v has %q in the history of %d", p.l, p.l[i].Text, x.Number)
				}
			}
		}
	})
}

// P10.10: without the entries of its history a part is as if it had not been
func TestPartsThatHaveNotBeen(t *testing.T) {
	pasts(60, func(_ *rand.Rand, p past) {
		q := plain(p)
		want(t, "a log without models, repairs and sections", q.isPlain(), api.OK, true, api.OK)
		s, _ := record.StateOf(q.n, q.l)
		for i, x := range s.Parts {
			h, _ := record.HistoryOf(q.n, q.l, x.Number)
			var rest []api.RecordEntry
			for j, y := range q.l {
				if word := wordsOf(y.Text)[0]; word == "recipe" || word == "coil" || !slices.Contains(h, j) {
					rest = append(rest, y)
				}
			}
			all, _ := record.StateOf(q.n, q.l)
			got, e := record.StateOf(q.n, rest)
			want(t, "the state without a part", got, e, without(all, i), api.OK)
		}
	})
}

// P10.11
func TestCountsThatClose(t *testing.T) {
	pasts(100, func(_ *rand.Rand, p past) {
		c, e := record.CountsOf(p.n, p.l)
		s, _ := record.StateOf(p.n, p.l)
		want(t, "started", c.Started, e, len(s.Parts), api.OK)
		want(t, "the sum", c.Under+c.Inside+c.Good+c.Bad+c.Cut, e, c.Started, api.OK)
		for place, count := range ints(c.Under, c.Inside, c.Good, c.Bad, c.Cut) {
			for _, x := range s.Parts {
				if x.Place == place {
					count--
				}
			}
			want(t, "a place", count, e, 0, api.OK)
		}
		for _, c := range s.Coils {
			shots := 0
			for _, x := range s.Parts {
				if x.Coil == c.Name {
					shots++
				}
			}
			if len(p.indexes(0, "repair", c.Name)) == 0 {
				want(t, "the shots", c.Shots, api.OK, shots, api.OK)
			}
		}
	})
}

// P10.12
func TestModelsInAnyOrder(t *testing.T) {
	made := slices.Concat([]string{"recipe r " + phases, "coil c 9"}, cycle(1, "r", "c", 5, 7), cycle(2, "r", "c", 9, 3), cycle(3, "r", "c", 6, 8))
	for trim, rows := range [][][]api.Range{{{span(5, 9)}, {span(3, 8)}}, {{span(6, 6)}, {span(7, 7)}}} {
		for _, order := range [][]string{{"1", "2", "3"}, {"1", "3", "2"}, {"2", "1", "3"}, {"2", "3", "1"}, {"3", "1", "2"}, {"3", "2", "1"}} {
			l := byEva(slices.Concat(made, []string{"model " + order[0], "model " + order[1], "model " + order[2], "learn " + strconv.Itoa(trim)})...)
			s, e := record.StateOf(exampleNet(), l)
			want(t, "the envelope", s.Envelope, e, api.MonitorEnvelope{Parts: 3, Trim: trim, Rows: rows}, api.OK)
			want(t, "the models", fmt.Sprint(s.Models), e, fmt.Sprint(order), api.OK)
		}
	}
}

// R3: results share no memory with each other
func TestMemoryOfStates(t *testing.T) {
	n, l := exampleNet(), joined(exampleLog(), byEva("recipe q repeat 2 (quench 1 3)")...)
	a, _ := record.StateOf(n, l)
	b, _ := record.StateOf(n, l)
	a.Recipes[1].Phases[0].Body[0].Law = 7
	a.Recipes[0].Version = 7
	a.Coils[0].Shots = 7
	a.Parts[0].Frames[0].Values[0] = 7
	a.Models[0] = 7
	a.Envelope.Rows[0][0].Lo = 7
	want(t, "another state", b, api.OK, past{n, l}.state(), api.OK)
	h, _ := record.HistoryOf(n, l, 1)
	h[0] = 7
	p, _ := record.PartOf(n, l, 1)
	p.Frames[0].Values[0] = 7
	again, e := record.HistoryOf(n, l, 1)
	want(t, "HistoryOf", again, e, ints(0, 1, 2, 3, 4, 5, 6), api.OK)
	want(t, "the log", l, api.OK, joined(exampleLog(), byEva("recipe q repeat 2 (quench 1 3)")...), api.OK)
	want(t, "the net", n, api.OK, exampleNet(), api.OK)
}
