package distort_test

import (
	"math"
	"math/rand"
	"slices"
	"testing"

	"martensite/api"
	"martensite/distort"
)

// section is a section, station is a station.
func section(length, lo, hi int) api.DistortSection {
	return api.DistortSection{Length: length, Strain: span(lo, hi)}
}
func station(at, x, y int) api.DistortStation { return api.DistortStation{At: at, X: x, Y: y} }

// P6.4, example 7
func TestGrowthOf(t *testing.T) {
	for _, x := range []struct {
		l []api.DistortSection
		r api.Range
	}{
		{[]api.DistortSection{section(50, 10, 20), section(30, -5, 5)}, span(350, 1150)},
		{[]api.DistortSection{section(30, -5, 5), section(50, 10, 20)}, span(350, 1150)},
		{nil, one(0)},
		{[]api.DistortSection{}, one(0)},
		{[]api.DistortSection{section(0, -100000, 100000)}, one(0)},
		{[]api.DistortSection{section(7, -3, -2)}, span(-21, -14)},
		{slices.Repeat([]api.DistortSection{section(10000, -100000, 100000)}, 20), span(-20000000000, 20000000000)},
	} {
		r, e := distort.GrowthOf(x.l)
		want(t, "GrowthOf", r, e, x.r, api.OK)
	}
}

// P6.4
func TestErrorsOfSections(t *testing.T) {
	ok := section(10, 1, 2)
	for _, x := range []struct {
		l []api.DistortSection
		e api.Errno
	}{
		{slices.Repeat([]api.DistortSection{ok}, 21), api.ErrLarge},
		{slices.Repeat([]api.DistortSection{section(-1, 2, 1)}, 21), api.ErrLarge},
		{[]api.DistortSection{ok, section(-1, 2, 1)}, api.ErrRange},
		{[]api.DistortSection{ok, section(10001, 1, 2)}, api.ErrRange},
		{[]api.DistortSection{section(math.MinInt, 1, 2)}, api.ErrRange},
		{[]api.DistortSection{section(math.MaxInt, 1, 2)}, api.ErrRange},
		{[]api.DistortSection{ok, section(1, -100001, 2)}, api.ErrRange},
		{[]api.DistortSection{ok, section(1, 0, 100001)}, api.ErrRange},
		{[]api.DistortSection{ok, section(1, 100001, 0)}, api.ErrRange},
		{[]api.DistortSection{ok, section(1, 0, -100001)}, api.ErrRange},
		{[]api.DistortSection{ok, section(1, math.MinInt, math.MaxInt)}, api.ErrRange},
		{[]api.DistortSection{ok, section(1, math.MaxInt, math.MinInt)}, api.ErrRange},
		{[]api.DistortSection{ok, section(1, 2, 1)}, api.ErrOrder},
		{[]api.DistortSection{section(1, 2, 1), section(-1, 0, 0)}, api.ErrOrder},
		{[]api.DistortSection{section(-1, 0, 0), section(1, 2, 1)}, api.ErrRange},
	} {
		r, e := distort.GrowthOf(x.l)
		want(t, "GrowthOf", r, e, api.Range{}, x.e)
	}
}

// runOut is what follows from readings.
func runOut(x, y, oval, lo, hi int) api.DistortRunOut {
	return api.DistortRunOut{X: x, Y: y, Oval: oval, RunOut: span(lo, hi)}
}

// P6.4, example 8, edge case of a round part off its centre
func TestRunOutOf(t *testing.T) {
	const most = api.MaxDistortReading
	for readings, x := range map[[4]int]api.DistortRunOut{
		{5, 2, 1, 2}:               runOut(4, 0, 2, 4, 4),
		{0, 0, 0, 0}:               runOut(0, 0, 0, 0, 0),
		{7, 7, 7, 7}:               runOut(0, 0, 0, 0, 0),
		{3, 4, 0, 0}:               runOut(3, 4, -1, 5, 5),
		{0, 0, 3, 4}:               runOut(-3, -4, -1, 5, 5),
		{1, 1, 0, 0}:               runOut(1, 1, 0, 1, 2),
		{1, 0, 0, 0}:               runOut(1, 0, 1, 1, 1),
		{0, 0, 0, 1}:               runOut(0, -1, -1, 1, 1),
		{2, 2, 0, 0}:               runOut(2, 2, 0, 2, 3),
		{105, 103, 95, 97}:         runOut(10, 6, 0, 11, 12),
		{10, 0, 10, 0}:             runOut(0, 0, 20, 0, 0),
		{most, 0, -most, 0}:        runOut(2*most, 0, 0, 2*most, 2*most),
		{-most, most, most, -most}: runOut(-2*most, 2*most, 0, 2828427, 2828428),
		{most, -most, most, -most}: runOut(0, 0, 4*most, 0, 0),
		{-most, most, -most, most}: runOut(0, 0, -4*most, 0, 0),
		{most, most, -most, 1}:     runOut(2*most, most-1, -most-1, 2236067, 2236068),
	} {
		r, e := distort.RunOutOf(readings)
		want(t, "RunOutOf", r, e, x, api.OK)
	}
	for i := range 4 {
		for _, n := range []int{most + 1, -most - 1, math.MinInt, math.MaxInt} {
			var readings [4]int
			readings[i] = n
			r, e := distort.RunOutOf(readings)
			want(t, "RunOutOf", r, e, api.DistortRunOut{}, api.ErrRange)
		}
	}
}

// P6.4: the root is rounded down and up
func TestRoots(t *testing.T) {
	random := rand.New(rand.NewSource(13))
	exact := 0
	for i := range 20000 {
		most := []int{9, 300, api.MaxDistortReading}[i%3]
		var readings [4]int
		for k := range readings {
			readings[k] = between(random, -most, most)
		}
		r, e := distort.RunOutOf(readings)
		squares := r.X*r.X + r.Y*r.Y
		lo, hi := r.RunOut.Lo, r.RunOut.Hi
		if e != api.OK || lo < 0 || lo*lo > squares || hi*hi < squares || (lo+1)*(lo+1) <= squares || hi > 0 && (hi-1)*(hi-1) >= squares {
			t.Errorf("RunOutOf %v: %v, %d", readings, r, e)
		}
		if lo == hi {
			exact++
		}
	}
	if exact < 100 {
		t.Errorf("too few whole roots: %d", exact)
	}
}

// P6.11: readings that are shifted, and a part that is turned
func TestTurned(t *testing.T) {
	random := rand.New(rand.NewSource(14))
	for range 2000 {
		var readings, shifted, turned [4]int
		by := between(random, -1000, 1000)
		for k := range readings {
			readings[k] = between(random, 1000-api.MaxDistortReading, api.MaxDistortReading-1000)
			shifted[k] = readings[k] + by
			turned[(k+1)%4] = readings[k]
		}
		r, e := distort.RunOutOf(readings)
		x, f := distort.RunOutOf(shifted)
		want(t, "RunOutOf shifted readings", x, f, r, e)
		x, f = distort.RunOutOf(turned)
		want(t, "RunOutOf turned readings", x, f, api.DistortRunOut{X: -r.Y, Y: r.X, Oval: -r.Oval, RunOut: r.RunOut}, e)
	}
}

// bow is a bow.
func bow(x, y api.Range) api.DistortBow { return api.DistortBow{X: x, Y: y} }

// P6.4, example 9, edge case of two stations
func TestBowsOf(t *testing.T) {
	end := bow(one(0), one(0))
	for _, x := range []struct {
		l    []api.DistortStation
		bows []api.DistortBow
	}{
		{[]api.DistortStation{station(0, 0, 0), station(10, 5, 1), station(40, 8, 0)}, []api.DistortBow{end, bow(one(3), one(1)), end}},
		{[]api.DistortStation{station(3, -9, 5), station(4, 7, 700)}, []api.DistortBow{end, end}},
		{[]api.DistortStation{station(7, 1, -1), station(8, 0, 0), station(10, 2, -2)}, []api.DistortBow{end, bow(span(-2, -1), span(1, 2)), end}},
		{[]api.DistortStation{station(0, 0, 3), station(1, 0, 0), station(2, 0, -1), station(3, 1, 0)}, []api.DistortBow{
			end, bow(span(-1, 0), one(-2)), bow(span(-1, 0), one(-2)), end,
		}},
		{[]api.DistortStation{station(0, -1000000, 1000000), station(9999, 1000000, -1000000), station(10000, -1000000, 1000000)}, []api.DistortBow{
			end, bow(one(2000000), one(-2000000)), end,
		}},
		{[]api.DistortStation{station(0, -1000000, 1000000), station(9999, -1000000, 1000000), station(10000, 1000000, -1000000)}, []api.DistortBow{
			end, bow(one(-1999800), one(1999800)), end,
		}},
	} {
		l, e := distort.BowsOf(x.l)
		want(t, "BowsOf", l, e, x.bows, api.OK)
	}
}

// P6.4
func TestErrorsOfStations(t *testing.T) {
	a, b := station(0, 0, 0), station(10, 1, 1)
	var many []api.DistortStation
	for i := range api.MaxDistortList + 1 {
		many = append(many, station(i, i, -i))
	}
	for _, x := range []struct {
		l []api.DistortStation
		e api.Errno
	}{
		{nil, api.ErrShape},
		{[]api.DistortStation{}, api.ErrShape},
		{[]api.DistortStation{a}, api.ErrShape},
		{[]api.DistortStation{station(-1, 0, 0)}, api.ErrShape},
		{many, api.ErrLarge},
		{make([]api.DistortStation, 21), api.ErrLarge},
		{[]api.DistortStation{station(-1, 0, 0), b}, api.ErrRange},
		{[]api.DistortStation{a, station(10001, 0, 0)}, api.ErrRange},
		{[]api.DistortStation{a, station(math.MaxInt, 0, 0)}, api.ErrRange},
		{[]api.DistortStation{b, station(math.MinInt, 0, 0)}, api.ErrRange},
		{[]api.DistortStation{a, station(5, 1000001, 0)}, api.ErrRange},
		{[]api.DistortStation{a, station(5, 0, -1000001)}, api.ErrRange},
		{[]api.DistortStation{a, b, station(5, -1000001, 0)}, api.ErrRange},
		{[]api.DistortStation{a, b, station(5, 0, 1000001)}, api.ErrRange},
		{[]api.DistortStation{a, station(5, math.MinInt, math.MaxInt)}, api.ErrRange},
		{[]api.DistortStation{a, b, station(10, 0, 0)}, api.ErrOrder},
		{[]api.DistortStation{a, b, station(9, 0, 0), station(-1, 0, 0)}, api.ErrOrder},
		{[]api.DistortStation{b, a}, api.ErrOrder},
		{[]api.DistortStation{a, station(5, 1000001, 0), station(5, 0, 0)}, api.ErrRange},
	} {
		l, e := distort.BowsOf(x.l)
		want(t, "BowsOf", l, e, []api.DistortBow{}, x.e)
	}
	l, e := distort.BowsOf(many[:api.MaxDistortList])
	want(t, "BowsOf", l, e, make([]api.DistortBow, api.MaxDistortList), api.OK)
}

// someStations are at most 20 stations whose centres are at most so far off.
func someStations(random *rand.Rand, most int) []api.DistortStation {
	length := []int{30, api.MaxDistortLength}[random.Intn(2)]
	places := random.Perm(length + 1)[:2+random.Intn(19)]
	slices.Sort(places)
	var l []api.DistortStation
	for _, at := range places {
		l = append(l, station(at, between(random, -most, most), between(random, -most, most)))
	}
	return l
}

// bowIn is how far a number is off the line through two others, rounded down and up, by exact fractions.
func bowIn(at, n [3]int) api.Range {
	line := rational(n[2]-n[0], at[2]-at[0])
	line.Mul(line, rational(at[1]-at[0], 1))
	off := rational(n[1]-n[0], 1)
	off.Sub(off, line)
	return span(floorOf(off), ceilingOf(off))
}

// P6.4, P6.11: by exact fractions; a straight line that is added does not matter
func TestBowsByFractions(t *testing.T) {
	random := rand.New(rand.NewSource(15))
	for i := range 1000 {
		l := someStations(random, []int{10, 100000}[i%2])
		first, last := l[0], l[len(l)-1]
		var bows []api.DistortBow
		for _, s := range l {
			at := [3]int{first.At, s.At, last.At}
			bows = append(bows, bow(bowIn(at, [3]int{first.X, s.X, last.X}), bowIn(at, [3]int{first.Y, s.Y, last.Y})))
		}
		got, e := distort.BowsOf(l)
		want(t, "BowsOf", got, e, bows, api.OK)
		if got[0] != bow(one(0), one(0)) || got[len(got)-1] != got[0] {
			t.Errorf("BowsOf %v: the ends %v", l, got)
		}
		slopes, offsets := [2]int{between(random, -50, 50), between(random, -50, 50)}, [2]int{between(random, -999, 999), between(random, -999, 999)}
		for k := range l {
			l[k].X += slopes[0]*l[k].At + offsets[0]
			l[k].Y += slopes[1]*l[k].At + offsets[1]
		}
		got, e = distort.BowsOf(l)
		want(t, "BowsOf with a line", got, e, bows, api.OK)
	}
}
