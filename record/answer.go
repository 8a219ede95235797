package record

import (
	"strconv"
	"strings"

	"martensite/api"
)

// spaced is the string of numbers, "-" if there are none.
func spaced(numbers ...int) string {
	if len(numbers) == 0 {
		return "-"
	}
	var words []string
	for _, n := range numbers {
		words = append(words, strconv.Itoa(n))
	}
	return strings.Join(words, " ")
}

// partAnswer is the answer about a part.
func (h *house) partAnswer(word string) (string, api.Errno) {
	n, ok := number(word)
	if !ok {
		return "", api.ErrSyntax
	}
	p, e := h.asked(n)
	if e != api.OK {
		return "", e
	}
	return p.Recipe + " " + spaced(p.Version) + " " + p.Coil + " " + spaced(p.Place, p.Verdict), api.OK
}

// shotsAnswer is the answer about the shots of a coil.
func (h *house) shotsAnswer(name string) (string, api.Errno) {
	c := h.coilOf(name)
	if e := firstOf(nameError(name), errorIf(c == nil, api.ErrMissing)); e != api.OK {
		return "", e
	}
	return spaced(c.Shots), api.OK
}

// versionAnswer is the answer about the newest version of a recipe.
func (h *house) versionAnswer(name string) (string, api.Errno) {
	v, ok := h.newest(name)
	if e := firstOf(nameError(name), errorIf(!ok, api.ErrMissing)); e != api.OK {
		return "", e
	}
	return spaced(v.Version), api.OK
}

// answer is the answer to a question.
func (h *house) answer(question string) (string, api.Errno) {
	switch question {
	case "count":
		return spaced(len(h.log)), api.OK
	case "inside":
		return spaced(h.numbers(part.isHere)...), api.OK
	}
	word, rest, _ := strings.Cut(question, " ")
	if word == question {
		return "", api.ErrSyntax
	}
	switch word {
	case "part":
		return h.partAnswer(rest)
	case "shots":
		return h.shotsAnswer(rest)
	case "version":
		return h.versionAnswer(rest)
	}
	return "", api.ErrSyntax
}

// Answer is the answer to a question about a log.
func Answer(n api.RecordNet, l []api.RecordEntry, question string) (string, api.Errno) {
	h, e := houseOf(n, l)
	if e != api.OK {
		return "", e
	}
	return h.answer(question)
}
