package steel_test

import (
	"math"
	"math/big"
	"math/rand"
	"slices"
	"strconv"
	"testing"

	"martensite/api"
	"martensite/steel"
)

// element is an element of an analysis.
func element(name string, amount api.Range, weight int) api.SteelElement {
	return api.SteelElement{Name: name, Amount: amount, Weight: weight}
}

// analysis is an analysis.
func analysis(start int, l ...api.SteelElement) api.SteelAnalysis {
	return api.SteelAnalysis{Start: start, Elements: l}
}

// evidence is a piece of evidence.
func evidence(name string, lo, hi int) api.SteelEvidence {
	return api.SteelEvidence{Name: name, Start: span(lo, hi)}
}

// badNames are strings that are no names.
func badNames() []string {
	return []string{"", "-", "1", "-a", "1a", "a b", "a_", " a", "a ", "a.", "\xc3\xa4", "a\xc3\xa4", "a\x00", "a\n", "@", "[", "`", "{", "a/", "a:", "abcdefghijklm", "a,"}
}

// goodNames are names.
func goodNames() []string {
	return []string{"a", "z", "A", "Z", "a-", "a--1", "Z09", "abcdefghijkl", "A-1"}
}

// P4.5
func TestCheckAnalysis(t *testing.T) {
	c, n := element("c", span(0, 10000), 1000), element("n", one(0), 0)
	many := slices.Repeat([]api.SteelElement{c}, api.MaxSteelElements+1)
	for _, x := range []struct {
		a     api.SteelAnalysis
		index int
		e     api.Errno
	}{
		{analysis(0, many...), 0, api.ErrRange},
		{analysis(-1, element("", one(0), 0)), 0, api.ErrRange},
		{analysis(3001), 0, api.ErrRange},
		{analysis(math.MinInt), 0, api.ErrRange},
		{analysis(math.MaxInt), 0, api.ErrRange},
		{analysis(1, many...), 0, api.ErrLarge},
		{analysis(1, make([]api.SteelElement, api.MaxSteelElements+1)...), 0, api.ErrLarge},
		{analysis(1, c, n, c), 2, api.ErrExists},
		{analysis(1, c, element("c", one(-1), -1)), 1, api.ErrExists},
		{analysis(1, n, element("2", one(-1), -1)), 1, api.ErrName},
		{analysis(1, element("c", one(-1), 0), element("c", one(0), 0)), 0, api.ErrRange},
		{analysis(1, n, element("c", span(-1, 0), 0)), 1, api.ErrRange},
		{analysis(1, n, element("c", span(0, 10001), 0)), 1, api.ErrRange},
		{analysis(1, n, element("c", span(10001, 0), 0)), 1, api.ErrRange},
		{analysis(1, n, element("c", span(1, 0), -1)), 1, api.ErrRange},
		{analysis(1, n, element("c", one(0), 1001)), 1, api.ErrRange},
		{analysis(1, n, element("c", one(math.MaxInt), math.MinInt)), 1, api.ErrRange},
		{analysis(1, n, element("c", span(1, 0), 1000), element("", one(0), 0)), 1, api.ErrOrder},
		{analysis(1, n, element("C", span(10000, 9999), 0)), 1, api.ErrOrder},
		{analysis(1, c, n, element("C", one(0), 0)), 0, api.OK},
		{analysis(3000), 0, api.OK},
	} {
		i, e := steel.CheckAnalysis(x.a)
		want(t, "CheckAnalysis", i, e, x.index, x.e)
		if x.e != api.OK {
			r, e := steel.StartOf(x.a)
			want(t, "StartOf", r, e, api.Range{}, x.e)
		}
	}
}

// P4.5: names
func TestNames(t *testing.T) {
	for _, name := range badNames() {
		i, e := steel.CheckAnalysis(analysis(1, element("a", one(0), 0), element(name, one(-1), 0)))
		want(t, "CheckAnalysis", i, e, 1, api.ErrName)
		r, e := steel.AgreedOf([]api.SteelEvidence{evidence("a", 0, 0), evidence(name, -1, 0)})
		want(t, "AgreedOf", r, e, api.Range{}, api.ErrName)
	}
	for _, name := range goodNames() {
		i, e := steel.CheckAnalysis(analysis(1, element(name, one(0), 0)))
		want(t, "CheckAnalysis", i, e, 0, api.OK)
		r, e := steel.AgreedOf([]api.SteelEvidence{evidence(name, 1, 2)})
		want(t, "AgreedOf", r, e, span(1, 2), api.OK)
	}
}

// P4.5, example 7
func TestStartOf(t *testing.T) {
	carbon, nickel := element("carbon", span(40, 45), 1000), element("nickel", one(100), 170)
	for _, x := range []struct {
		a     api.SteelAnalysis
		start api.Range
	}{
		{analysis(800, carbon, nickel), span(738, 743)},
		{analysis(800), one(800)},
		{analysis(800, element("x", span(0, 10000), 0)), one(800)},
		{analysis(800, element("x", span(0, 1), 1)), span(799, 800)},
		{analysis(800, element("x", span(999, 1001), 1)), span(798, 800)},
		{analysis(800, element("x", one(1000), 1)), one(799)},
		{analysis(800, element("x", one(500), 1)), span(799, 800)},
		// The sum is rounded, not each element.
		{analysis(800, element("x", one(500), 1), element("y", one(500), 1)), one(799)},
		{analysis(1, element("x", one(10000), 1000)), one(-9999)},
		{analysis(1, element("x", one(1001), 1)), span(-1, 0)},
		{analysis(1, element("x", one(2001), 1)), span(-2, -1)},
	} {
		r, e := steel.StartOf(x.a)
		want(t, "StartOf", r, e, x.start, api.OK)
	}
}

// P4.5: by exact fractions
func TestStartOfByFractions(t *testing.T) {
	random := rand.New(rand.NewSource(8))
	floor := func(x *big.Rat) int { return int(new(big.Int).Div(x.Num(), x.Denom()).Int64()) }
	for range 1000 {
		a := analysis(between(random, 1, 3000))
		lo, hi := big.NewRat(int64(a.Start), 1), big.NewRat(int64(a.Start), 1)
		for i := range random.Intn(api.MaxSteelElements + 1) {
			x := element("e"+strconv.Itoa(i), someRange(random, 0, 10000), between(random, 0, 1000))
			a.Elements = append(a.Elements, x)
			lo.Sub(lo, big.NewRat(int64(x.Amount.Hi*x.Weight), 1000))
			hi.Sub(hi, big.NewRat(int64(x.Amount.Lo*x.Weight), 1000))
		}
		r, e := steel.StartOf(a)
		want(t, "StartOf", r, e, span(floor(lo), -floor(new(big.Rat).Neg(hi))), api.OK)
	}
}

// P4.5: evidence that agrees, and evidence that does not
func TestEvidence(t *testing.T) {
	a, b, c := evidence("a", 738, 743), evidence("b", 740, 750), evidence("c", 744, 760)
	for _, x := range []struct {
		l       []api.SteelEvidence
		agreed  api.Range
		against [2]string
	}{
		{[]api.SteelEvidence{a}, span(738, 743), [2]string{}},
		{[]api.SteelEvidence{a, b}, span(740, 743), [2]string{}},
		{[]api.SteelEvidence{b, c}, span(744, 750), [2]string{}},
		{[]api.SteelEvidence{a, b, c}, api.Range{}, [2]string{"a", "c"}},
		{[]api.SteelEvidence{c, b, a}, api.Range{}, [2]string{"c", "a"}},
		{[]api.SteelEvidence{b, a, c}, api.Range{}, [2]string{"a", "c"}},
		{[]api.SteelEvidence{evidence("a", 1, 5), evidence("b", 5, 9)}, one(5), [2]string{}},
		{[]api.SteelEvidence{evidence("a", 5, 9), evidence("b", 1, 5)}, one(5), [2]string{}},
		{[]api.SteelEvidence{evidence("a", 0, 3000), evidence("b", 1, 4), evidence("c", 5, 9), evidence("d", 4, 5)}, api.Range{}, [2]string{"b", "c"}},
		// The first index counts first, then the second one.
		{[]api.SteelEvidence{evidence("a", 5, 5), evidence("b", 1, 1), evidence("c", 3, 5), evidence("d", 9, 9)}, api.Range{}, [2]string{"a", "b"}},
		{[]api.SteelEvidence{evidence("a", 2, 5), evidence("b", 3, 3), evidence("c", 4, 5), evidence("d", 9, 9)}, api.Range{}, [2]string{"a", "d"}},
		{[]api.SteelEvidence{evidence("a", 0, 0), evidence("A", 3000, 3000)}, api.Range{}, [2]string{"a", "A"}},
	} {
		agrees := x.against == [2]string{}
		r, e := steel.AgreedOf(x.l)
		pair, f := steel.Contradicting(x.l)
		if agrees {
			want(t, "AgreedOf", r, e, x.agreed, api.OK)
			want(t, "Contradicting", pair, f, x.against, api.ErrNone)
		} else {
			want(t, "AgreedOf", r, e, api.Range{}, api.ErrClash)
			want(t, "Contradicting", pair, f, x.against, api.OK)
		}
	}
}

// P4.5
func TestErrorsOfEvidence(t *testing.T) {
	ok := evidence("a", 1, 2)
	for _, x := range []struct {
		l []api.SteelEvidence
		e api.Errno
	}{
		{nil, api.ErrShape},
		{[]api.SteelEvidence{}, api.ErrShape},
		{make([]api.SteelEvidence, api.MaxSteelEvidence+1), api.ErrLarge},
		{slices.Repeat([]api.SteelEvidence{ok}, api.MaxSteelEvidence+1), api.ErrLarge},
		{slices.Repeat([]api.SteelEvidence{ok}, api.MaxSteelEvidence), api.ErrExists},
		{[]api.SteelEvidence{ok, evidence("b", 1, 2), evidence("a", -1, 0)}, api.ErrExists},
		{[]api.SteelEvidence{evidence("a", -1, 0), ok}, api.ErrRange},
		{[]api.SteelEvidence{ok, evidence("b", -1, 0)}, api.ErrRange},
		{[]api.SteelEvidence{ok, evidence("b", 0, 3001)}, api.ErrRange},
		{[]api.SteelEvidence{ok, evidence("b", 3001, 0)}, api.ErrRange},
		{[]api.SteelEvidence{ok, evidence("b", 0, -1)}, api.ErrRange},
		{[]api.SteelEvidence{ok, evidence("b", math.MinInt, math.MaxInt)}, api.ErrRange},
		{[]api.SteelEvidence{ok, evidence("b", 5, 4), evidence("", 0, 0)}, api.ErrOrder},
		{[]api.SteelEvidence{ok, evidence("", 0, 0), evidence("b", 5, 4)}, api.ErrName},
		{[]api.SteelEvidence{ok, evidence("b", 9, 9), evidence("c", 5, 4)}, api.ErrOrder},
	} {
		r, e := steel.AgreedOf(x.l)
		want(t, "AgreedOf", r, e, api.Range{}, x.e)
		pair, e := steel.Contradicting(x.l)
		want(t, "Contradicting", pair, e, [2]string{}, x.e)
	}
	r, e := steel.AgreedOf([]api.SteelEvidence{evidence("a", 0, 3000)})
	want(t, "AgreedOf at limits", r, e, span(0, 3000), api.OK)
}

// P4.12: of several that contradict themselves two do, and more evidence has no wider agreed range
func TestTwoOfAKind(t *testing.T) {
	random := rand.New(rand.NewSource(9))
	clashes := 0
	for range 2000 {
		var l []api.SteelEvidence
		before := span(0, 3000)
		for i := range 1 + random.Intn(api.MaxSteelEvidence) {
			r := someRange(random, 0, 20)
			l = append(l, evidence("e"+strconv.Itoa(i), r.Lo, r.Hi+random.Intn(15)))
			agreed, e := steel.AgreedOf(l)
			pair, f := steel.Contradicting(l)
			if e == api.ErrClash {
				clashes++
				a, b := rangeNamed(l, pair[0]), rangeNamed(l, pair[1])
				if f != api.OK || a.Hi >= b.Lo && b.Hi >= a.Lo {
					t.Errorf("%v and %v have numbers in common: %d", a, b, f)
				}
				break
			}
			if e != api.OK || f != api.ErrNone || agreed.Lo < before.Lo || agreed.Hi > before.Hi || agreed.Lo > agreed.Hi {
				t.Errorf("%v after %v: %d, %d", agreed, before, e, f)
			}
			before = agreed
		}
	}
	if clashes < 200 || clashes > 1800 {
		t.Errorf("%d of 2000 contradict themselves", clashes)
	}
}

// rangeNamed is the range of the evidence with a name.
func rangeNamed(l []api.SteelEvidence, name string) api.Range {
	i := slices.IndexFunc(l, func(x api.SteelEvidence) bool { return x.Name == name })
	return l[i].Start
}
