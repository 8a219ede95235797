package record_test

import (
	"math/big"
	"math/rand"
	"slices"
	"strconv"
	"strings"
	"testing"

	"martensite/api"
	"martensite/record"
)

// sumOf is the sum of a string after a number, as one number to the base of the factor.
func sumOf(s string, after int) int {
	n := big.NewInt(int64(after))
	for _, b := range []byte(s) {
		n.Mul(n, big.NewInt(229))
		n.Add(n, big.NewInt(int64(b)+1))
	}
	return int(n.Mod(n, big.NewInt(999961)).Int64())
}

// P10.5, example 8
func TestSumOf(t *testing.T) {
	for _, x := range []struct {
		s          string
		after, sum int
	}{
		{"ab", 0, 22541}, {"a", 0, 98}, {"", 0, 0}, {"", 5, 5}, {"", 999960, 999960}, {"\x00", 0, 1}, {"\xff", 0, 256}, {"\x00", 1, 230}, {"\x00", 999960, 999961 - 228}, {"\xe3", 999960, 999960},
	} {
		n, e := record.SumOf(x.s, x.after)
		want(t, "SumOf", n, e, x.sum, api.OK)
	}
	random := rand.New(rand.NewSource(105))
	for range 200 {
		bytes := make([]byte, random.Intn(50))
		random.Read(bytes)
		after := random.Intn(999961)
		n, e := record.SumOf(string(bytes), after)
		want(t, "SumOf", n, e, sumOf(string(bytes), after), api.OK)
	}
	for _, after := range append(extremes(), -1, 999961) {
		n, e := record.SumOf("ab", after)
		want(t, "SumOf", n, e, 0, api.ErrRange)
	}
}

// P10.5, example 9, edge case of the empty log
func TestJournal(t *testing.T) {
	n, l := exampleNet(), exampleLog()
	first := "1 eva recipe r heat 400 2;quench 1 3"
	one := sumOf(first, 0)
	two := sumOf("1 sem coil c 3", one)
	for _, x := range []struct {
		count, format int
		s             string
	}{
		{0, api.RecordOld, "1\n"},
		{0, api.RecordNew, "2\n"},
		{1, api.RecordOld, "1\n" + first + "\n"},
		{2, api.RecordOld, "1\n" + first + "\n1 sem coil c 3\n"},
		{1, api.RecordNew, "2\n" + first + " " + strconv.Itoa(one) + "\n"},
		{2, api.RecordNew, "2\n" + first + " " + strconv.Itoa(one) + "\n1 sem coil c 3 " + strconv.Itoa(two) + "\n"},
	} {
		s, e := record.Journal(n, l[:x.count], x.format)
		want(t, "Journal", s, e, x.s, api.OK)
	}
	for _, format := range append(extremes(), -1, 0, 3) {
		s, e := record.Journal(n, l, format)
		want(t, "Journal", s, e, "", api.ErrKind)
	}
}

// recovered wants what is recovered from a string.
func recovered(t *testing.T, n api.RecordNet, s string, l []api.RecordEntry, bytes int) {
	t.Helper()
	back, k, e := record.Recovered(n, s)
	want(t, "Recovered", back, e, l, api.OK)
	want(t, "the bytes of "+s, k, e, bytes, api.OK)
}

// noted is a journal in the old format with these lines.
func noted(lines ...string) string { return "1\n" + strings.Join(lines, "\n") + "\n" }

// P10.5: lines that are not those of a valid log; edge case of the old format
func TestRecovered(t *testing.T) {
	n := exampleNet()
	good := log(entry(3, "gus", "note x"))
	for _, line := range []string{
		"", " ", "3", "3 ", "3 gus", "3 gus ", "3 gus note", "3  gus note x", " 3 gus note x", "03 gus note x", "+3 gus note x", "-3 gus note x", "-0 gus note x", "3.0 gus note x", "x gus note x", "2 gus note x", "0 gus note x",
		"1000000000001 gus note x", "99999999999999999999 gus note x", "3 bob note x", "3 gus Note x", "3 gus end", "3 ola end", "3 gus note x\r", "3 gus note \u00e9", "3 gus note \x00", "3 gus note " + strings.Repeat("x", 596),
	} {
		recovered(t, n, noted("3 gus note x", line), good, 15)
		recovered(t, n, noted("3 gus note x", line, "3 gus note x"), good, 15)
	}
	for line, x := range map[string]api.RecordEntry{
		"3 gus note ": entry(3, "gus", "note "), "3 gus note  x ": entry(3, "gus", "note  x "), "1000000000000 ola note 5": entry(api.MaxTick, "ola", "note 5"),
		"3 gus note " + strings.Repeat("x", 595): entry(3, "gus", "note "+strings.Repeat("x", 595)),
	} {
		recovered(t, n, noted("3 gus note x", line), joined(good, x), 15+len(line)+1)
	}
	changed := noted("0 gus note x", "0 gus note y")
	recovered(t, n, strings.Replace(changed, "x", "z", 1), log(entry(0, "gus", "note z"), entry(0, "gus", "note y")), len(changed))
	recovered(t, n, "1\n", nil, 2)
	recovered(t, n, "2\n", nil, 2)
	recovered(t, n, "1\n\n", nil, 2)
	recovered(t, n, "2\n\n", nil, 2)
	recovered(t, n, "1\n1\n", nil, 2)
	many := "1\n" + strings.Repeat("0 gus note x\n", 61)
	recovered(t, n, many, slices.Repeat(log(entry(0, "gus", "note x")), 60), len(many)-13)
}

// P10.5: the errors of strings
func TestErrorsOfRecovered(t *testing.T) {
	for _, s := range []string{"", "1", "2", "3\n", "0\n", "10\n", "01\n", " 1\n", "1 \n", "1\r\n", "\n", "\n1\n", "-1\n", "1x\n", "x", strings.Repeat("x", 60000)} {
		l, k, e := record.Recovered(exampleNet(), s)
		want(t, "Recovered", l, e, log(), api.ErrForm)
		want(t, "Recovered", k, e, 0, api.ErrForm)
	}
	long := "1\n0 gus note x\n" + strings.Repeat("x", 60000-15)
	recovered(t, exampleNet(), long, log(entry(0, "gus", "note x")), 15)
	for _, s := range []string{long + "x", strings.Repeat("x", 60001)} {
		l, k, e := record.Recovered(exampleNet(), s)
		want(t, "Recovered", l, e, log(), api.ErrLarge)
		want(t, "Recovered", k, e, 0, api.ErrLarge)
	}
}

// P10.5: a line of the new format whose sum is another one is not recovered
func TestSumsOfLines(t *testing.T) {
	n, l := exampleNet(), exampleLog()
	s, _ := record.Journal(n, l, api.RecordNew)
	ends := ints(2)
	for i := range s {
		if i > 2 && s[i] == '\n' {
			ends = append(ends, i+1)
		}
	}
	// All changes of one byte.
	for i := 2; i < len(s); i++ {
		whole := 0
		for ends[whole+1] <= i {
			whole++
		}
		for _, b := range []byte{'0', '1', '7', ' ', '\n', 'x', s[i] + 1, s[i] - 1} {
			if b != s[i] {
				recovered(t, n, s[:i]+string(rune(b))+s[i+1:], l[:whole], ends[whole])
			}
		}
	}
	for sum, count := range map[string]int{"": 0, " ": 0, " 0": 0, "  X": 0, " 0X": 0, " +X": 0, " X ": 0, "X": 0, " X": 1, " X X": 0} {
		line := "3 gus note x" + strings.ReplaceAll(sum, "X", strconv.Itoa(sumOf("3 gus note x", 0)))
		recovered(t, n, "2\n"+line+"\n", log(entry(3, "gus", "note x"))[:count], 2+count*(len(line)+1))
	}
}

// P10.5: the sum of a line goes on from that of the line before
func TestSumsGoOn(t *testing.T) {
	one := sumOf("3 gus note x", 0)
	two := sumOf("3 gus note x", one)
	line := "3 gus note x " + strconv.Itoa(one) + "\n"
	again := "3 gus note x " + strconv.Itoa(two) + "\n"
	x := entry(3, "gus", "note x")
	recovered(t, exampleNet(), "2\n"+line+again, log(x, x), 2+len(line)+len(again))
	recovered(t, exampleNet(), "2\n"+line+line, log(x), 2+len(line))
	recovered(t, exampleNet(), "2\n"+again, nil, 2)
	recovered(t, exampleNet(), "1\n"+line+line, slices.Repeat(log(entry(3, "gus", strings.TrimSpace(line[6:]))), 2), 2+2*len(line))
}

// P10.13
func TestCuts(t *testing.T) {
	cuts := func(n api.RecordNet, l []api.RecordEntry) {
		for _, format := range ints(api.RecordOld, api.RecordNew) {
			s, e := record.Journal(n, l, format)
			want(t, "Journal", 0, e, 0, api.OK)
			for i := 2; i <= len(s); i++ {
				whole := strings.Count(s[2:i], "\n")
				recovered(t, n, s[:i], l[:whole], 1+strings.LastIndex(s[:i], "\n"))
			}
		}
	}
	cuts(exampleNet(), exampleLog())
	cuts(exampleNet(), joined(exampleLog(), byEva("note ", "note  5 ", "note x 7")...))
	pasts(40, func(random *rand.Rand, p past) {
		for _, format := range ints(api.RecordOld, api.RecordNew) {
			s, _ := record.Journal(p.n, p.l, format)
			recovered(t, p.n, s, p.l, len(s))
			i := someNumber(random, 2, len(s))
			recovered(t, p.n, s[:i], p.l[:strings.Count(s[2:i], "\n")], 1+strings.LastIndex(s[:i], "\n"))
		}
	})
}
