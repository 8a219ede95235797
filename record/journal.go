package record

import (
	"strconv"
	"strings"

	"martensite/api"
)

// journal is the format of a journal.
type journal int

// isFormat is whether a number is a format.
func isFormat(n int) bool { return n == api.RecordOld || n == api.RecordNew }

// head is the first line of a journal.
func (j journal) head() string { return strconv.Itoa(int(j)) + "\n" }

// sum is the sum of a string after a number.
func sum(s string, after int) int {
	for i := range len(s) {
		after = (after*api.RecordFactor + int(s[i]) + 1) % api.RecordPrime
	}
	return after
}

// line is the line of an entry, and the sum of its string after that of the entry before.
func (j journal) line(x api.RecordEntry, before int) (string, int) {
	s := strconv.Itoa(x.At) + " " + x.By + " " + x.Text
	after := sum(s, before)
	if j == api.RecordNew {
		s += " " + strconv.Itoa(after)
	}
	return s + "\n", after
}

// entryIn is the entry of a line, if the line is one. Whether it is, is asked by writing the line of this entry.
func (j journal) entryIn(line string) api.RecordEntry {
	line = strings.TrimSuffix(line, "\n")
	if j == api.RecordNew {
		line = line[:max(strings.LastIndexByte(line, ' '), 0)]
	}
	word, rest, _ := strings.Cut(line, " ")
	at, _ := strconv.Atoi(word)
	by, text, _ := strings.Cut(rest, " ")
	return api.RecordEntry{At: at, By: by, Text: text}
}

// replay lets a house enter the entries of lines, up to a line that is not that of an entry, or whose entry is refused. It returns the number of their bytes.
func (j journal) replay(h *house, lines string) int {
	bytes, before := 0, 0
	for line := range strings.Lines(lines) {
		x := j.entryIn(line)
		s, after := j.line(x, before)
		if s != line || h.enter(x) != api.OK {
			break
		}
		bytes += len(line)
		before = after
	}
	return bytes
}

// SumOf is the sum of a string after a number.
func SumOf(s string, after int) (int, api.Errno) {
	if e := rangeError(0, api.RecordPrime-1, after); e != api.OK {
		return 0, e
	}
	return sum(s, after), api.OK
}

// Journal is the journal of a log in a format.
func Journal(n api.RecordNet, l []api.RecordEntry, format int) (string, api.Errno) {
	_, e := houseOf(n, l)
	if e = firstOf(e, errorIf(!isFormat(format), api.ErrKind)); e != api.OK {
		return "", e
	}
	j, before := journal(format), 0
	text := []byte(j.head())
	for _, x := range l {
		line, after := j.line(x, before)
		text = append(text, line...)
		before = after
	}
	return string(text), api.OK
}

// Recovered is the log of the longest beginning of a string that is a journal, and the number of its bytes.
func Recovered(n api.RecordNet, s string) ([]api.RecordEntry, int, api.Errno) {
	h, e := houseOf(n, nil)
	if e = firstOf(e, errorIf(len(s) > api.MaxString, api.ErrLarge)); e != api.OK {
		return nil, 0, e
	}
	for _, j := range [...]journal{api.RecordOld, api.RecordNew} {
		if lines, ok := strings.CutPrefix(s, j.head()); ok {
			bytes := len(j.head()) + j.replay(h, lines)
			return h.log, bytes, api.OK
		}
	}
	return nil, 0, api.ErrForm
}
