package record

import (
	"strings"

	"martensite/api"
)

// maxDigits is how many digits a number has at most.
const maxDigits = 7

// words are what follows the first word of a text. (No text has two of one kind.)
type words struct {
	number             int
	recipe, coil, rest string
}

// form is the form of a text: its first word, the kinds of what follows it (a number, a recipe, a coil, or the text that is left), who may make it, and what it does to a house. It does nothing if it returns an error.
type form struct {
	word, kinds string
	role        int
	do          func(*house, words) api.Errno
}

// forms are the forms of all texts.
func forms() []form {
	return []form{
		{"note", "t", api.RecordGuest, (*house).note},
		{"start", "nrc", api.RecordOperator, (*house).start},
		{"frame", "t", api.RecordOperator, (*house).frame},
		{"end", "", api.RecordOperator, (*house).end},
		{"good", "n", api.RecordOperator, (*house).good},
		{"bad", "n", api.RecordOperator, (*house).bad},
		{"coil", "cn", api.RecordSetter, (*house).newCoil},
		{"repair", "c", api.RecordSetter, (*house).repair},
		{"mark", "n", api.RecordInspector, (*house).mark},
		{"section", "nt", api.RecordInspector, (*house).section},
		{"recipe", "rt", api.RecordEngineer, (*house).newVersion},
		{"model", "n", api.RecordEngineer, (*house).model},
		{"learn", "n", api.RecordEngineer, (*house).learn},
	}
}

// formOf is the form with a first word; false if there is none.
func formOf(word string) (form, bool) {
	for _, f := range forms() {
		if f.word == word {
			return f, true
		}
	}
	return form{}, false
}

// number is a number without a sign.
func number(s string) (int, bool) {
	if s == "" || len(s) > maxDigits || len(s) > 1 && s[0] == '0' {
		return 0, false
	}
	n := 0
	for i := range len(s) {
		if !isDigit(s[i]) {
			return 0, false
		}
		n = 10*n + int(s[i]-'0')
	}
	return n, true
}

// set sets the word of a kind; false if it is not of it.
func (w *words) set(kind rune, word string) bool {
	ok := word != ""
	switch kind {
	case 'n':
		w.number, ok = number(word)
	case 'r':
		w.recipe = word
	case 'c':
		w.coil = word
	}
	return ok
}

// wordsIn are the words of the kinds of a form, which follow the first word of a text; false if the text is not of this form.
func wordsIn(text, kinds string) (words, bool) {
	var w words
	_, rest, more := strings.Cut(text, " ")
	for _, kind := range kinds {
		if !more {
			return words{}, false
		}
		if kind == 't' {
			w.rest, more = rest, false
			continue
		}
		var word string
		word, rest, more = strings.Cut(rest, " ")
		if !w.set(kind, word) {
			return words{}, false
		}
	}
	return w, !more
}

// bytesError is the error of the bytes of a text.
func bytesError(text string) api.Errno {
	isStrange := func(r rune) bool { return r < ' ' || r > '~' }
	return firstOf(
		errorIf(len(text) > api.MaxRecordText, api.ErrLarge),
		errorIf(strings.ContainsFunc(text, isStrange), api.ErrForm))
}
