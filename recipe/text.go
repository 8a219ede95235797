package recipe

import (
	"strconv"
	"strings"

	"martensite/api"
)

// maxDigits is how many digits a number has at most.
const maxDigits = 5

// reader is what is left of a string that is read.
type reader struct{ rest string }

// takes is whether the rest begins with a text, which is taken then.
func (r *reader) takes(text string) bool {
	rest, ok := strings.CutPrefix(r.rest, text)
	r.rest = rest
	return ok
}

// number takes all digits that the rest begins with.
func (r *reader) number() (int, bool) {
	rest := strings.TrimLeft(r.rest, "0123456789")
	digits := r.rest[:len(r.rest)-len(rest)]
	r.rest = rest
	if digits == "" || len(digits) > maxDigits || len(digits) > 1 && digits[0] == '0' {
		return 0, false
	}
	n, e := strconv.Atoi(digits)
	return n, e == nil
}

// listed takes items with ";" between.
func listed[T any](r *reader, item func() (T, bool)) ([]T, bool) {
	var items []T
	for {
		x, ok := item()
		if !ok {
			return nil, false
		}
		items = append(items, x)
		if !r.takes(";") {
			return items, true
		}
	}
}

// kind takes the word of a kind of phase.
func (r *reader) kind() (int, bool) {
	for kind, word := range words {
		if r.takes(word) {
			return kind, true
		}
	}
	return 0, false
}

// numbers takes the numbers of a phase, each after a blank.
func (r *reader) numbers(p *api.RecipePhase) bool {
	places := placesOf(p)
	for _, u := range usesOf(p.Kind) {
		if !r.takes(" ") {
			return false
		}
		n, ok := r.number()
		if !ok {
			return false
		}
		*places[u.name] = n
	}
	return true
}

// body takes the phases of a repeat.
func (r *reader) body() ([]api.RecipePhase, bool) {
	if !r.takes(" (") {
		return nil, false
	}
	l, ok := listed(r, r.phase)
	if !ok || !r.takes(")") {
		return nil, false
	}
	return l, true
}

// phase takes a phase.
func (r *reader) phase() (api.RecipePhase, bool) {
	kind, ok := r.kind()
	p := api.RecipePhase{Kind: kind}
	if !ok || !r.numbers(&p) {
		return api.RecipePhase{}, false
	}
	if kind == api.RecipeRepeat {
		p.Body, ok = r.body()
	}
	return p, ok
}

// tick takes a tick.
func (r *reader) tick() (api.RecipeTick, bool) {
	power, isPower := r.number()
	isBlank := r.takes(" ")
	law, isLaw := r.number()
	return api.RecipeTick{Power: power, Law: law}, isPower && isBlank && isLaw
}

// withNumber is a text followed by a number.
func withNumber(text []byte, n int) []byte { return strconv.AppendInt(text, int64(n), 10) }

// withPhase is a text followed by the string of a phase.
func withPhase(text []byte, p api.RecipePhase) []byte {
	if !isKind(p.Kind) {
		return text
	}
	text = append(text, words[p.Kind]...)
	for _, u := range usesOf(p.Kind) {
		text = withNumber(append(text, ' '), u.of(p))
	}
	if p.Kind == api.RecipeRepeat {
		text = append(text, " ("...)
		text = withPhases(text, p.Body)
		text = append(text, ')')
	}
	return text
}

// withPhases is a text followed by the string of phases. All repeats write into one text, so that what stands in many of them is not copied for each.
func withPhases(text []byte, l []api.RecipePhase) []byte {
	for i, p := range l {
		if i > 0 {
			text = append(text, ';')
		}
		text = withPhase(text, p)
	}
	return text
}

// FormatRecipe is the string of phases.
func FormatRecipe(l []api.RecipePhase) string { return string(withPhases(nil, l)) }

// ParseRecipe is the recipe with this string.
func ParseRecipe(s string) ([]api.RecipePhase, api.Errno) {
	if len(s) > api.MaxRecipeString {
		return nil, api.ErrLarge
	}
	r := &reader{s}
	l, ok := listed(r, r.phase)
	if !ok || r.rest != "" {
		return nil, api.ErrSyntax
	}
	if e := recipeError(l); e != api.OK {
		return nil, e
	}
	return l, api.OK
}

// FormatTicks is the string of ticks.
func FormatTicks(l []api.RecipeTick) string {
	var text []byte
	for i, t := range l {
		if i > 0 {
			text = append(text, ';')
		}
		text = withNumber(text, t.Power)
		text = append(text, ' ')
		text = withNumber(text, t.Law)
	}
	return string(text)
}

// ParseTicks are the ticks with this string.
func ParseTicks(s string) ([]api.RecipeTick, api.Errno) {
	if len(s) > api.MaxString {
		return nil, api.ErrLarge
	}
	if s == "" {
		return nil, api.OK
	}
	r := &reader{s}
	l, ok := listed(r, r.tick)
	if !ok || r.rest != "" {
		return nil, api.ErrSyntax
	}
	return l, api.OK
}
