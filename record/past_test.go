package record_test

import (
	"math/rand"
	"regexp"
	"slices"
	"strconv"
	"strings"

	"martensite/api"
	"martensite/inspect"
	"martensite/monitor"
	"martensite/recipe"
)

// past is a valid log. What follows from it is found by looking through all its entries for each question; nothing is kept.
type past struct {
	n api.RecordNet
	l []api.RecordEntry
}

// shapes are the forms of all texts.
var shapes = regexp.MustCompile(`^(?:(note|frame) (.*)|(start) (N) (W) (W)|(end)|(good|bad|mark|model|learn) (N)|(coil) (W) (N)|(repair) (W)|(section) (N) (.*)|(recipe) (W) (.*))$`)

// init writes out what numbers and words are.
func init() {
	s := strings.ReplaceAll(shapes.String(), "(N)", "(0|[1-9][0-9]{0,6})")
	shapes = regexp.MustCompile(strings.ReplaceAll(s, "(W)", "([^ ]+)"))
}

// known are the words of all texts that were looked at.
var known = map[string][]string{}

// wordsOf are the words of a text; none if it is malformed.
func wordsOf(text string) []string {
	if words, ok := known[text]; ok {
		return words
	}
	var words []string
	if m := shapes.FindStringSubmatchIndex(text); m != nil {
		for i := 2; i < len(m); i += 2 {
			if m[i] >= 0 {
				words = append(words, text[m[i]:m[i+1]])
			}
		}
	}
	known[text] = words
	return words
}

// indexes are the indexes from one on, of all entries that begin with these words.
func (p past) indexes(from int, words ...string) []int {
	var l []int
	for i := from; i < len(p.l); i++ {
		given := wordsOf(p.l[i].Text)
		if len(given) >= len(words) && slices.Equal(given[:len(words)], words) {
			l = append(l, i)
		}
	}
	return l
}

// first and last are the first index from one on, and the last one, of such an entry; -1 if there is none.
func (p past) first(from int, words ...string) int {
	if l := p.indexes(from, words...); len(l) > 0 {
		return l[0]
	}
	return -1
}
func (p past) last(words ...string) int {
	if l := p.indexes(0, words...); len(l) > 0 {
		return l[len(l)-1]
	}
	return -1
}

// until is the past before an index.
func (p past) until(i int) past { return past{p.n, p.l[:i]} }

// word is a word of an entry.
func (p past) word(i, word int) string { return wordsOf(p.l[i].Text)[word] }

// numbers are the numbers of all parts, as words.
func (p past) numbers() []string {
	var l []string
	for _, i := range p.indexes(0, "start") {
		l = append(l, p.word(i, 1))
	}
	return l
}

// started, ended and gone are the indexes of the start of a part, its end, and the entry with which it left; -1 if there is none.
func (p past) started(number string) int { return p.first(0, "start", number) }
func (p past) ended(number string) int   { return p.first(p.started(number), "end") }
func (p past) gone(number string) int {
	return max(p.last("good", number), p.last("bad", number), p.last("section", number))
}

// place is the place of a part.
func (p past) place(number string) int {
	if i := p.gone(number); i >= 0 {
		return map[string]int{"good": api.RecordGood, "bad": api.RecordBad, "section": api.RecordCut}[p.word(i, 0)]
	}
	if p.ended(number) >= 0 {
		return api.RecordInside
	}
	return api.RecordUnder
}

// isHereAt is whether a part was under the coil or inside before an entry.
func (p past) isHereAt(number string, i int) bool {
	before := p.until(i)
	return before.started(number) >= 0 && before.gone(number) < 0
}

// versionOf is the version of the recipe of a part, and the index of the entry that made it.
func (p past) versionOf(number string) (api.RecordVersion, int) {
	start := p.started(number)
	name := p.word(start, 2)
	made := p.until(start).indexes(0, "recipe", name)
	return version(name, len(made)), made[len(made)-1]
}

// frameIndexes are the indexes of all frames of a part.
func (p past) frameIndexes(number string) []int {
	end := p.ended(number)
	if end < 0 {
		end = len(p.l)
	}
	return p.until(end).indexes(p.started(number), "frame")
}

// framesOf are the frames of a part, each tick once.
func (p past) framesOf(number string) []api.MonitorFrame {
	var l []api.MonitorFrame
	for _, i := range p.frameIndexes(number) {
		f, _ := monitor.ParseFrame(p.word(i, 1))
		if !slices.ContainsFunc(l, func(g api.MonitorFrame) bool { return g.Tick == f.Tick }) {
			l = append(l, f)
		}
	}
	return l
}

// plan is the plan of the net.
func (p past) plan() api.MonitorPlan {
	x, _ := monitor.ParsePlan(p.n.Plan)
	return x
}

// valuesOf are the values of a tick and a channel in the frames of some parts, ascending.
func (p past) valuesOf(numbers []string, tick, channel int) []int {
	var values []int
	for _, number := range numbers {
		for _, f := range p.framesOf(number) {
			if f.Tick == tick {
				values = append(values, f.Values[channel])
			}
		}
	}
	slices.Sort(values)
	return values
}

// models are the numbers of all models, as words.
func (p past) models() []string {
	var l []string
	for _, i := range p.indexes(0, "model") {
		l = append(l, p.word(i, 1))
	}
	return l
}

// envelopeOf is the envelope of all models with a trim.
func (p past) envelopeOf(trim int) api.MonitorEnvelope {
	x := api.MonitorEnvelope{Parts: len(p.models()), Trim: trim}
	for tick := range p.plan().Ticks {
		var row []api.Range
		for channel := range p.plan().Channels {
			values := p.valuesOf(p.models(), tick, channel)
			row = append(row, span(values[trim], values[len(values)-1-trim]))
		}
		x.Rows = append(x.Rows, row)
	}
	return x
}

// envelope is the envelope, the zero value if there is none.
func (p past) envelope() api.MonitorEnvelope {
	i := p.last("learn")
	if i < 0 {
		return api.MonitorEnvelope{}
	}
	trim, _ := strconv.Atoi(p.word(i, 1))
	return p.until(i).envelopeOf(trim)
}

// isWhole is whether a part has as many frames as the plan has ticks.
func (p past) isWhole(number string) bool { return len(p.framesOf(number)) == p.plan().Ticks }

// verdict is whether a part was judged, and its verdict.
func (p past) verdict(number string) (bool, int) {
	end := p.ended(number)
	if end < 0 {
		return false, 0
	}
	x := p.until(end).envelope()
	for _, f := range p.framesOf(number) {
		for channel, value := range f.Values {
			if x.Parts > 0 && (value < x.Rows[f.Tick][channel].Lo || value > x.Rows[f.Tick][channel].Hi) {
				return true, api.MonitorSpoilt
			}
		}
	}
	if !p.isWhole(number) {
		return x.Parts > 0, api.MonitorLost
	}
	return x.Parts > 0, api.MonitorGood
}

// depthOf is the case depth that a section measured.
func (p past) depthOf(i int) (api.Span, api.Errno) {
	t, e := inspect.ParseTraverse(p.word(i, 2))
	if e != api.OK {
		return api.Span{}, e
	}
	return inspect.CaseOf(t, p.n.Limit)
}

// spoiling are the indexes of the sections of other parts that marked parts of the version of a part when it was here.
func (p past) spoiling(number string) []int {
	own, _ := p.versionOf(number)
	var l []int
	for _, i := range p.indexes(p.started(number), "section") {
		depth, _ := p.depthOf(i)
		other, _ := p.versionOf(p.word(i, 1))
		isOutside := float64(depth.Lo.Num)/float64(depth.Lo.Den) < float64(p.n.Case.Lo) || float64(depth.Hi.Num)/float64(depth.Hi.Den) > float64(p.n.Case.Hi)
		if p.word(i, 1) != number && other == own && isOutside && p.isHereAt(number, i) {
			l = append(l, i)
		}
	}
	return l
}

// isMarked is whether a part is marked.
func (p past) isMarked(number string) bool {
	return p.last("mark", number) >= 0 || len(p.spoiling(number)) > 0
}

// mayLeave is whether a part may leave by the good chute.
func (p past) mayLeave(number string) bool {
	judged, verdict := p.verdict(number)
	return p.place(number) == api.RecordInside && judged && verdict == api.MonitorGood && !p.isMarked(number)
}

// part is a part.
func (p past) part(number string) api.RecordPart {
	x := api.RecordPart{Coil: p.word(p.started(number), 3), Frames: p.framesOf(number), Place: p.place(number), Marked: p.isMarked(number)}
	x.Number, _ = strconv.Atoi(number)
	x.RecordVersion, _ = p.versionOf(number)
	x.Judged, x.Verdict = p.verdict(number)
	if i := p.last("section", number); i >= 0 {
		x.Depth, _ = p.depthOf(i)
	}
	return x
}

// history is the history of a part.
func (p past) history(number string) []int {
	start := p.started(number)
	_, made := p.versionOf(number)
	l := append(p.frameIndexes(number), made, p.first(0, "coil", p.word(start, 3)), start)
	l = append(l, p.spoiling(number)...)
	for _, i := range ints(p.ended(number), p.first(0, "model", number), p.first(0, "mark", number), p.gone(number)) {
		if i >= 0 {
			l = append(l, i)
		}
	}
	slices.Sort(l)
	return l
}

// shots are the shots of a coil.
func (p past) shots(coil string) int {
	shots := 0
	for _, i := range p.indexes(max(0, p.last("repair", coil)), "start") {
		if p.word(i, 3) == coil {
			shots++
		}
	}
	return shots
}

// coil is a coil that an entry made.
func (p past) coil(i int) api.RecordCoil {
	life, _ := strconv.Atoi(p.word(i, 2))
	return api.RecordCoil{Name: p.word(i, 1), Life: life, Shots: p.shots(p.word(i, 1))}
}

// recipe is a version of a recipe that an entry made.
func (p past) recipe(i int) api.RecordRecipe {
	l, _ := recipe.ParseRecipe(p.word(i, 2))
	return api.RecordRecipe{RecordVersion: version(p.word(i, 1), 1+len(p.until(i).indexes(0, "recipe", p.word(i, 1)))), Phases: l}
}

// state is the state.
func (p past) state() api.RecordState {
	s := api.RecordState{Envelope: p.envelope()}
	for _, i := range p.indexes(0, "recipe") {
		s.Recipes = append(s.Recipes, p.recipe(i))
	}
	for _, i := range p.indexes(0, "coil") {
		s.Coils = append(s.Coils, p.coil(i))
	}
	for _, number := range p.numbers() {
		s.Parts = append(s.Parts, p.part(number))
	}
	for _, word := range p.models() {
		number, _ := strconv.Atoi(word)
		s.Models = append(s.Models, number)
	}
	return s
}

// tryText is a random text, often one that suits a past.
func tryText(random *rand.Rand, p past) string {
	number, recipe, coil := strconv.Itoa(someNumber(random, 1, 6)), oneOf(random, "r", "r", "q"), oneOf(random, "c", "c", "d")
	tick, value := strconv.Itoa(someNumber(random, 0, p.plan().Ticks-1)), strconv.Itoa(someNumber(random, 10, 12))
	isUnder := p.last("start") > p.last("end")
	if isUnder && random.Intn(3) > 0 {
		return oneOf(random, "frame "+tick+" "+value, "frame "+tick+" "+value, "frame "+tick+" 11", "frame "+tick+" 11", "end", "mark "+number)
	}
	if random.Intn(3) == 0 {
		return oneOf(random, "start "+number+" "+recipe+" "+coil, "start "+number+" r c")
	}
	return oneOf(random,
		"good "+number, "good "+number, "good "+number, "bad "+number, "mark "+number, "model "+number, "model "+number, "learn "+oneOf(random, "0", "0", "1"),
		"section "+number+" "+oneOf(random, deep, shallow), "recipe "+recipe+" "+oneOf(random, phases, "quench 0 1"), "coil "+coil+" 3", "repair "+coil, "end", "frame 0 11", "note x", "start 7 r")
}
