package distort

import (
	"strconv"
	"strings"

	"martensite/api"
)

// maxDigits is how many digits a number has at most.
const maxDigits = 7

// kinkAt is the position of a joint, and its kink.
type kinkAt struct {
	at   int
	kink api.Range
}

// joined is the string of items with ";" between.
func joined[T any](items []T, textOf func(T) string) string {
	var texts []string
	for _, x := range items {
		texts = append(texts, textOf(x))
	}
	return strings.Join(texts, ";")
}

// spaced is the string of words.
func spaced(l ...string) string { return strings.Join(l, " ") }

// parsed are the items of a string, each of three words.
func parsed[T any](s string, itemOf func([3]string) (T, bool)) ([]T, bool) {
	var items []T
	for text := range strings.SplitSeq(s, ";") {
		l := strings.SplitN(text, " ", 4)
		if len(l) != 3 {
			return nil, false
		}
		x, ok := itemOf([3]string(l))
		if !ok {
			return nil, false
		}
		items = append(items, x)
	}
	return items, true
}

// number is a number without a sign.
func number(s string) (int, bool) {
	if s == "" || len(s) > maxDigits || len(s) > 1 && s[0] == '0' {
		return 0, false
	}
	n := 0
	for i := range len(s) {
		if s[i] < '0' || s[i] > '9' {
			return 0, false
		}
		n = 10*n + int(s[i]-'0')
	}
	return n, true
}

// signed is a number that may be below 0.
func signed(s string) (int, bool) {
	digits, below := strings.CutPrefix(s, "-")
	n, ok := number(digits)
	if below {
		return -n, ok && n > 0
	}
	return n, ok
}

// jointOf is the joint with these words.
func jointOf(words [3]string) (kinkAt, bool) {
	at, isAt := number(words[0])
	lo, isLo := signed(words[1])
	hi, isHi := signed(words[2])
	return kinkAt{at, api.Range{Lo: lo, Hi: hi}}, isAt && isLo && isHi
}

// strokeOf is the stroke with these words.
func strokeOf(words [3]string) (api.DistortStroke, bool) {
	at, isAt := number(words[0])
	amount, isAmount := number(words[1])
	up := words[2] == "up"
	return api.DistortStroke{Joint: at, Amount: amount, Up: up}, isAt && isAmount && (up || words[2] == "down")
}

// jointText is the string of a joint.
func jointText(x kinkAt) string {
	return spaced(strconv.Itoa(x.at), strconv.Itoa(x.kink.Lo), strconv.Itoa(x.kink.Hi))
}

// strokeText is the string of a stroke.
func strokeText(x api.DistortStroke) string {
	way := "down"
	if x.Up {
		way = "up"
	}
	return spaced(strconv.Itoa(x.Joint), strconv.Itoa(x.Amount), way)
}

// shaftIn is the shaft of a string.
func shaftIn(s string) (api.DistortShaft, bool) {
	head, rest, isBent := strings.Cut(s, ";")
	length, ok := number(head)
	x := api.DistortShaft{Length: length}
	if !ok || !isBent {
		return x, ok
	}
	l, ok := parsed(rest, jointOf)
	for _, k := range l {
		x.Joints = append(x.Joints, k.at)
		x.Kinks = append(x.Kinks, k.kink)
	}
	return x, ok
}

// FormatShaft is the string of a shaft.
func FormatShaft(s api.DistortShaft) string {
	length := strconv.Itoa(s.Length)
	var l []kinkAt
	for i := range min(len(s.Joints), len(s.Kinks)) {
		l = append(l, kinkAt{s.Joints[i], s.Kinks[i]})
	}
	if len(l) == 0 {
		return length
	}
	return length + ";" + joined(l, jointText)
}

// ParseShaft is the shaft with this string.
func ParseShaft(s string) (api.DistortShaft, api.Errno) {
	if len(s) > api.MaxString {
		return api.DistortShaft{}, api.ErrLarge
	}
	x, ok := shaftIn(s)
	if !ok {
		return api.DistortShaft{}, api.ErrSyntax
	}
	if e := shaftError(x); e != api.OK {
		return api.DistortShaft{}, e
	}
	return x, api.OK
}

// FormatPlan is the string of strokes.
func FormatPlan(l []api.DistortStroke) string { return joined(l, strokeText) }

// ParsePlan are the strokes with this string.
func ParsePlan(s string) ([]api.DistortStroke, api.Errno) {
	if len(s) > api.MaxString {
		return nil, api.ErrLarge
	}
	if s == "" {
		return nil, api.OK
	}
	l, ok := parsed(s, strokeOf)
	if !ok {
		return nil, api.ErrSyntax
	}
	if len(l) > api.MaxDistortStrokes {
		return nil, api.ErrLarge
	}
	return l, api.OK
}
