package shop_test

import (
	"math"
	"math/rand"
	"slices"
	"strconv"
	"strings"
	"testing"

	"martensite/api"
	"martensite/shop"
)

// P9.6, example 10: strings of all values
func TestFormat(t *testing.T) {
	for s, l := range map[string][]api.ShopJob{
		"a 0 5 6;b 1 4 9": exampleJobs()[:2],
		"a 0 5 6":         exampleJobs()[:1],
		"":                nil,
		" 0 0 0":          jobs(job("", 0, 0, 0)),
		"a b; -1 -2 -3;x 12345678 9223372036854775807 -9223372036854775808": jobs(job("a b;", -1, -2, -3), job("x", 12345678, math.MaxInt, math.MinInt)),
	} {
		want(t, "FormatJobs", shop.FormatJobs(l), api.OK, s, api.OK)
	}
	for s, l := range map[string][]api.ShopBasket{
		"px5 rx1;rx3;qx3": baskets(basket(share("p", 5), share("r", 1)), basket(share("r", 3)), basket(share("q", 3))),
		"px5":             baskets(basket(share("p", 5))),
		"":                nil,
		";;px0":           baskets(basket(), basket(), basket(share("p", 0))),
		"x-1 a b;x10000":  baskets(basket(share("", -1), share("a b;", 10000))),
		"x9223372036854775807 xxx-9223372036854775808": baskets(basket(share("", math.MaxInt), share("xx", math.MinInt))),
	} {
		want(t, "FormatBaskets", shop.FormatBaskets(l), api.OK, s, api.OK)
	}
}

// P9.6, P9.13, example 10
func TestParseReversesFormat(t *testing.T) {
	reversed := func(l []api.ShopJob) {
		m, e := shop.ParseJobs(shop.FormatJobs(l))
		want(t, "ParseJobs", m, e, l, api.OK)
	}
	for _, l := range [][]api.ShopJob{exampleJobs(), goodJobs(), jobs(job("a", 0, 1, 0))} {
		reversed(l)
	}
	plans(1000, func(_ *rand.Rand, l []api.ShopJob, _ api.ShopChanges) { reversed(l) })

	random := rand.New(rand.NewSource(913))
	names := []string{"p", "x", "xx", "ax5", "x0", "x-", "abcdefghijkl", "Z9-x", "x5x5"}
	for range 1000 {
		var l []api.ShopBasket
		for range random.Intn(api.MaxShopBaskets + 1) {
			var b api.ShopBasket
			for range 1 + random.Intn(4) {
				b.Shares = append(b.Shares, share(names[random.Intn(len(names))], someNumber(random, 0, 9999)))
			}
			l = append(l, b)
		}
		m, e := shop.ParseBaskets(shop.FormatBaskets(l))
		want(t, "ParseBaskets", m, e, l, api.OK)
	}
}

// P9.6: strings of baskets, also of lots that stand twice, and the empty string
func TestParseBaskets(t *testing.T) {
	for s, l := range map[string][]api.ShopBasket{
		"":                nil,
		"px5 rx1;rx3;qx3": baskets(basket(share("p", 5), share("r", 1)), basket(share("r", 3)), basket(share("q", 3))),
		"px0":             baskets(basket(share("p", 0))),
		"px9999 px9999":   baskets(basket(share("p", 9999), share("p", 9999))),
		"xx5":             baskets(basket(share("x", 5))),
		"ax5x3":           baskets(basket(share("ax5", 3))),
		"px0x1":           baskets(basket(share("px0", 1))),
	} {
		b, e := shop.ParseBaskets(s)
		want(t, "ParseBaskets "+s, b, e, l, api.OK)
	}
}

// malformed are words that are no numbers.
func malformed() []string {
	return []string{"", "-1", "-0", "+1", "01", "00", "99999999999999999999", "1.", "0x1", "1_0", "a", "\xc2\xb2", "\xff", "1\t", "\n", "/", ":", " ", ";", " 1", "1 ", ";1", "1;", "1,1", "1 1"}
}

// P9.6: malformed strings of jobs
func TestMalformedJobs(t *testing.T) {
	l := []string{
		"", ";", " ", "  ", "   ", "a", "a 0", "a 0 5", "a 0 5 6 7", "a  0 5 6", "a 0  5 6", "a 0 5 6 ", " a 0 5 6", "a 0 5 6;", ";a 0 5 6", "a 0 5 6;;b 1 4 9", "a 0 5 6; b 1 4 9", "a 0 5 6 ;b 1 4 9",
		"a 0 5 6,b 1 4 9", "a;0;5;6", "a 0 5 6 b 1 4 9", "0 5 6", "1 0 5", "a 0 5 6;b", "a\t0\t5\t6", "a;b 0 5 6", "a b 0 5 6", "- 9 9 9;x", "1 0 5 6;b 1 4",
	}
	for _, word := range append(malformed(), "10000000", "0000001") {
		l = append(l, "a "+word+" 5 6;b 1 4 9", "a 0 "+word+" 6;b 1 4 9", "a 0 5 "+word+";b 1 4 9", "a 0 5 6;b "+word+" 4 9", "a 0 5 6;b 1 4 "+word)
	}
	for _, s := range l {
		l, e := shop.ParseJobs(s)
		want(t, "ParseJobs "+s, l, e, jobs(), api.ErrSyntax)
	}
}

// P9.6: malformed strings of baskets
func TestMalformedBaskets(t *testing.T) {
	l := []string{
		";", " ", "p", "x", "px", "p5", "5", "pX5", "px5;", ";px5", "px5;;rx1", "px5 ", " px5", "px5  rx1", "px5 ;rx1", "px5; rx1", "px5 rx1;rx3;q", "px5x", "px5xa", "px5 r", "p x5x", "1x5;p", ";;",
		strings.Repeat("px1;", 61), strings.Repeat("1x1;", 61) + "p",
	}
	for _, word := range append(malformed(), "10000", "00001", "99999") {
		if !strings.Contains(word, "x") { // the last "x" of a share ends the lot
			l = append(l, "px"+word+" rx1;rx3", "px5 rx"+word+";rx3", "px5;rx"+word)
		}
	}
	for _, s := range l {
		b, e := shop.ParseBaskets(s)
		want(t, "ParseBaskets "+s, b, e, baskets(), api.ErrSyntax)
	}
}

// P9.6: the errors of the jobs, and numbers of seven digits
func TestErrorsOfParseJobs(t *testing.T) {
	parsed := 0
	for _, x := range allBadJobs() {
		isText := len(x.l) > 0
		for _, y := range x.l {
			isText = isText && !strings.ContainsAny(y.Name, " ;") && min(y.Setup, y.Ticks, y.Due) >= 0 && max(y.Setup, y.Ticks, y.Due) <= 9999999
		}
		if isText {
			parsed++
			l, e := shop.ParseJobs(shop.FormatJobs(x.l))
			want(t, "ParseJobs", l, e, jobs(), x.e)
		}
	}
	if parsed < 25 {
		t.Errorf("too few strings: %d", parsed)
	}
	for s, f := range map[string]api.Errno{
		" 0 5 6":          api.ErrName,
		"a 0 5 6; 1 4 9":  api.ErrName,
		"a 0 5 6;a 9 4 9": api.ErrExists,
		"a 9999999 5 6":   api.ErrRange,
		"a 0 9999999 6":   api.ErrRange,
		"a 0 5 9999999":   api.ErrRange,
		"a 0 5 6" + strings.Repeat(";a 0 5 6", 7): api.ErrLarge,
	} {
		l, e := shop.ParseJobs(s)
		want(t, "ParseJobs "+s, l, e, jobs(), f)
	}
}

// P9.6: lots that are not names, and more than 60 baskets
func TestErrorsOfParseBaskets(t *testing.T) {
	for _, name := range noNames() {
		if !strings.ContainsAny(name, " ;") {
			for _, s := range []string{name + "x5", "px5 " + name + "x1", "px5;rx1 " + name + "x3;q-x2", strings.Repeat("px1;", 60) + name + "x5"} {
				b, e := shop.ParseBaskets(s)
				want(t, "ParseBaskets "+s, b, e, baskets(), api.ErrName)
			}
		}
	}
	b, e := shop.ParseBaskets("px5,rx1")
	want(t, "ParseBaskets", b, e, baskets(), api.ErrName)
	for count, f := range map[int]api.Errno{60: api.OK, 61: api.ErrLarge, 62: api.ErrLarge} {
		l := slices.Repeat(baskets(basket(share("p", 1), share("q", 2))), count)
		wanted := l
		if f != api.OK {
			wanted = nil
		}
		b, e := shop.ParseBaskets(shop.FormatBaskets(l))
		want(t, "ParseBaskets "+strconv.Itoa(count), b, e, wanted, f)
	}
}

// P9.6: strings of MaxString bytes, and of one more
func TestLargeStrings(t *testing.T) {
	for length, f := range map[int]api.Errno{api.MaxString: api.ErrSyntax, api.MaxString + 1: api.ErrLarge} {
		l, e := shop.ParseJobs(strings.Repeat("y", length))
		want(t, "ParseJobs", l, e, jobs(), f)
		b, e := shop.ParseBaskets(strings.Repeat("y", length))
		want(t, "ParseBaskets", b, e, baskets(), f)
	}
	// These strings are of their form: of 60000 bytes the items are asked for, of 60001 none is.
	long := strings.Repeat("y", api.MaxString-6)
	for s, f := range map[string]api.Errno{long + " 0 1 1": api.ErrName, "y" + long + " 0 1 1": api.ErrLarge} {
		l, e := shop.ParseJobs(s)
		want(t, "ParseJobs", l, e, jobs(), f)
	}
	b, e := shop.ParseBaskets(strings.Repeat("px1 ", api.MaxString/4-1) + "px10")
	want(t, "ParseBaskets", len(b), e, 1, api.OK)
	b, e = shop.ParseBaskets(strings.Repeat("px1 ", api.MaxString/4-1) + "px100")
	want(t, "ParseBaskets", b, e, baskets(), api.ErrLarge)
}

// R3: no argument is modified, and the baskets of a string share no memory
func TestMemoryOfStrings(t *testing.T) {
	l := exampleJobs()
	shop.FormatJobs(l)
	want(t, "jobs", l, api.OK, exampleJobs(), api.OK)
	b, _ := shop.ParseBaskets("px5 rx1;rx3;qx3")
	_ = append(b[0].Shares, share("none", 0))
	b[0].Shares[1] = share("none", 0)
	want(t, "ParseBaskets", b[1:], api.OK, baskets(basket(share("r", 3)), basket(share("q", 3))), api.OK)
}
