package shop_test

import (
	"math/big"
	"math/rand"
	"slices"
	"testing"

	"martensite/api"
	"martensite/shop"
)

// badBaths are readings with an error.
type badBaths struct {
	l []api.ShopBath
	e api.Errno
}

// allBadBaths are readings with errors.
func allBadBaths() []badBaths {
	first, none := reading(3, 0, 1), reading(-1, 1, -10001)
	l := []badBaths{
		{nil, api.ErrShape},
		{bath(), api.ErrShape},
		{bath(none), api.ErrShape},
		{bath(first), api.ErrShape},
		{slices.Repeat(bath(none), 21), api.ErrLarge},
		{slices.Repeat(bath(first), 21), api.ErrLarge},
		{bath(first, none), api.ErrRange},
		{bath(first, reading(4, 10001, 0)), api.ErrRange},
		{bath(first, reading(4, 1, 0)), api.ErrOrder},
		{bath(first, reading(4, 1, 0), none), api.ErrOrder},
		{bath(reading(4, 1, 0), none), api.ErrOrder},
		{bath(first, reading(3, 0, 1)), api.ErrOrder},
		{bath(first, reading(2, 0, 1)), api.ErrOrder},
		{bath(first, reading(4, 0, 1), reading(4, 0, 1)), api.ErrOrder},
		{bath(first, reading(6, 0, 1), reading(5, 0, 1), none), api.ErrOrder},
	}
	for _, n := range append(extremes(), -1, 100001) {
		l = append(l, badBaths{bath(first, reading(n, 0, 1)), api.ErrRange}, badBaths{bath(reading(n, 0, 1), first), api.ErrRange})
	}
	for _, n := range append(extremes(), -10001, 10001) {
		l = append(l, badBaths{bath(first, reading(4, n, 1)), api.ErrRange}, badBaths{bath(first, reading(4, 0, n)), api.ErrRange}, badBaths{bath(first, reading(4, n, n)), api.ErrRange})
	}
	return l
}

// P9.5: the errors of readings
func TestErrorsOfBaths(t *testing.T) {
	for _, x := range allBadBaths() {
		for _, tick := range ints(3, -1) {
			r, e := shop.BathAt(x.l, tick)
			want(t, "BathAt", r, e, api.Range{}, x.e)
		}
		for _, r := range []api.Range{span(0, 1), span(1, 0)} {
			n, e := shop.NextCheck(x.l, r)
			want(t, "NextCheck", n, e, 0, x.e)
		}
	}
	for _, tick := range append(extremes(), -1, 11, 100001) {
		r, e := shop.BathAt(exampleBath(), tick)
		want(t, "BathAt", r, e, api.Range{}, api.ErrRange)
	}
	for _, tick := range ints(0, 2, 7, 9) {
		r, e := shop.BathAt(bath(reading(3, 0, 1), reading(6, 0, 1)), tick)
		want(t, "BathAt", r, e, api.Range{}, api.ErrRange)
	}
	for _, x := range allBadLimits() {
		n, e := shop.NextCheck(exampleBath(), x.r)
		want(t, "NextCheck", n, e, 0, x.e)
	}
}

// P9.5, P9.12, example 9
func TestBathAt(t *testing.T) {
	long := bath(reading(2, -5, 5), reading(5, -4, 6), reading(6, 7, 7), reading(16, -8, 0))
	for _, x := range []struct {
		l    []api.ShopBath
		tick int
		r    api.Range
	}{
		{exampleBath(), 5, span(95, 103)},
		{exampleBath(), 0, span(100, 110)},
		{exampleBath(), 10, span(90, 95)},
		{exampleBath(), 1, span(99, 109)},
		{exampleBath(), 9, span(91, 97)},
		{long, 2, span(-5, 5)},
		{long, 3, span(-5, 6)},
		{long, 4, span(-5, 6)},
		{long, 5, span(-4, 6)},
		{long, 6, span(7, 7)},
		{long, 11, span(-1, 4)},
		{long, 15, span(-7, 1)},
		{long, 16, span(-8, 0)},
		{bath(reading(0, -10000, 10000), reading(100000, -10000, 10000)), 33333, span(-10000, 10000)},
		{bath(reading(0, -10000, -10000), reading(100000, 10000, 10000)), 1, span(-10000, -9999)},
		{bath(reading(0, -10000, -10000), reading(100000, 10000, 10000)), 50000, span(0, 0)},
	} {
		r, e := shop.BathAt(x.l, x.tick)
		want(t, "BathAt", r, e, x.r, api.OK)
	}
}

// onLine is the height of the line through two points at a tick.
func onLine(a, b, from, to, tick int) *big.Rat {
	slope := rational(to-from, b-a)
	slope.Mul(slope, rational(tick-a, 1))
	return slope.Add(slope, rational(from, 1))
}

// P9.5, P9.12: values by the definition, at each tick
func TestBathByDefinition(t *testing.T) {
	random := rand.New(rand.NewSource(912))
	for i := range 600 {
		l := someBath(random, 9, ints(3, 40, api.MaxShopValue)[i%3])
		for i, x := range l {
			r, e := shop.BathAt(l, x.Tick)
			want(t, "BathAt", r, e, x.Value, api.OK)
			if i == 0 {
				continue
			}
			y := l[i-1]
			for tick := y.Tick; tick <= x.Tick; tick++ {
				lo := onLine(y.Tick, x.Tick, y.Value.Lo, x.Value.Lo, tick)
				hi := onLine(y.Tick, x.Tick, y.Value.Hi, x.Value.Hi, tick)
				r, e := shop.BathAt(l, tick)
				want(t, "BathAt", r, e, span(floorOf(lo), ceilingOf(hi)), api.OK)
			}
		}
	}
}

// P9.5, example 9, edge case of readings that do not change
func TestNextCheck(t *testing.T) {
	at := func(tick, lo, hi int) []api.ShopBath { return bath(reading(tick-10, lo, hi), reading(tick, 90, 95)) }
	for _, x := range []struct {
		l     []api.ShopBath
		r     api.Range
		check int
		e     api.Errno
	}{
		{exampleBath(), span(80, 120), 21, api.OK},
		{exampleBath(), span(90, 95), 11, api.OK},
		{exampleBath(), span(89, 95), 12, api.OK},
		{exampleBath(), span(91, 120), 0, api.ErrBreak},
		{exampleBath(), span(80, 94), 0, api.ErrBreak},
		{exampleBath(), span(-10000, 10000), 10101, api.OK},
		{at(10, 90, 95), span(90, 95), 0, api.ErrNone},
		{at(10, 90, 95), span(0, 94), 0, api.ErrBreak},
		{at(10, 80, 100), span(80, 120), 0, api.ErrNone},
		{at(10, 80, 90), span(80, 120), 61, api.OK},
		{at(10, 80, 90), span(80, 95), 11, api.OK},
		{at(50, 80, 92), span(80, 120), 134, api.OK},
		// The upper line leaves first, and then the lower one.
		{at(10, 91, 91), span(80, 100), 23, api.OK},
		{at(10, 91, 91), span(89, 120), 21, api.OK},
		{at(10, 91, 94), span(80, 100), 61, api.OK},
		{at(10, 93, 94), span(80, 100), 44, api.OK},
		// Only the last two readings are asked.
		{bath(reading(0, 50, 50), reading(1, 90, 95), reading(11, 90, 95)), span(80, 120), 0, api.ErrNone},
		{bath(reading(0, 90, 95), reading(5, 0, 200), reading(6, 90, 95)), span(80, 120), 0, api.ErrNone},
		// A line that leaves by the other limit does not count.
		{bath(reading(0, 0, 9), reading(10, 9, 9)), span(0, 10), 0, api.ErrNone},
		{bath(reading(0, 9, 9), reading(10, 0, 9)), span(0, 10), 11, api.OK},
		{bath(reading(0, -9999, 0), reading(100000, -10000, 0)), span(-10000, 10000), 100001, api.OK},
		{bath(reading(0, 9999, 10000), reading(100000, 9998, 10000)), span(-10000, 10000), 1999900001, api.OK},
	} {
		n, e := shop.NextCheck(x.l, x.r)
		want(t, "NextCheck", n, e, x.check, x.e)
	}
}

// P9.5, P9.12: checks by walking along both lines; one tick before the check both are within the limits
func TestCheckByWalking(t *testing.T) {
	random := rand.New(rand.NewSource(95))
	counts := map[api.Errno]int{}
	for range 3000 {
		l := someBath(random, 9, 8)
		// The limits lie around the last reading, or nearly so.
		a, b := l[len(l)-2], l[len(l)-1]
		r := span(b.Value.Lo-random.Intn(9)+1, b.Value.Hi+random.Intn(9)-1)
		if r.Lo > r.Hi {
			continue
		}
		isInside := func(tick int) bool {
			lo := onLine(a.Tick, b.Tick, a.Value.Lo, b.Value.Lo, tick)
			hi := onLine(a.Tick, b.Tick, a.Value.Hi, b.Value.Hi, tick)
			return lo.Cmp(rational(r.Lo, 1)) >= 0 && hi.Cmp(rational(r.Hi, 1)) <= 0
		}
		wanted, f := 0, api.ErrNone
		if !isInside(b.Tick) {
			f = api.ErrBreak
		} else {
			// A line that has not left after this many ticks never does.
			for tick := b.Tick + 1; tick <= b.Tick+9*8+1 && f != api.OK; tick++ {
				if !isInside(tick) {
					wanted, f = tick, api.OK
				}
			}
		}
		n, e := shop.NextCheck(l, r)
		want(t, "NextCheck", n, e, wanted, f)
		counts[e]++
	}
	for _, e := range []api.Errno{api.OK, api.ErrNone, api.ErrBreak} {
		if counts[e] < 200 {
			t.Errorf("too few errors %d: %d", e, counts[e])
		}
	}
}

// R3: no argument is modified
func TestArgumentsOfBaths(t *testing.T) {
	l := exampleBath()
	shop.BathAt(l, 5)
	shop.NextCheck(l, span(80, 120))
	want(t, "bath", l, api.OK, exampleBath(), api.OK)
}
