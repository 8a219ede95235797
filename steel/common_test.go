package steel_test

import (
	"fmt"
	"math/rand"
	"slices"
	"testing"

	"martensite/api"
	"martensite/steel"
)

// whole is the sum of all shares.
const whole = api.SteelWhole

// same compares two values as they are printed, so that nil and empty slices are equal.
func same(a, b any) bool { return fmt.Sprintf("%+v", a) == fmt.Sprintf("%+v", b) }

// want compares a result and an error with those that are expected.
func want(t *testing.T, what string, got any, e api.Errno, value any, f api.Errno) {
	t.Helper()
	if !same(got, value) || e != f {
		t.Errorf("%s: %+v, %d, want %+v, %d", what, got, e, value, f)
	}
}

// span is a range.
func span(lo, hi int) api.Range { return api.Range{Lo: lo, Hi: hi} }

// one is a range of one number.
func one(n int) api.Range { return span(n, n) }

// heat is a knot of Heats.
func heat(kelvin, lo, hi, growth int) api.SteelHeat {
	return api.SteelHeat{Kelvin: kelvin, Rate: span(lo, hi), Growth: growth}
}

// cool is a knot of Cools.
func cool(kelvin int, wait, rate api.Range) api.SteelCool {
	return api.SteelCool{Kelvin: kelvin, Wait: wait, Rate: rate}
}

// cold is a knot of Colds.
func cold(kelvin, lo, hi int) api.SteelCold {
	return api.SteelCold{Kelvin: kelvin, Share: span(lo, hi)}
}

// temper is a knot of Tempers.
func temper(kelvin, rate int) api.SteelTemper { return api.SteelTemper{Kelvin: kelvin, Rate: rate} }

// example is the rules of the document's examples.
func example() api.SteelRules {
	return api.SteelRules{
		Heats:   []api.SteelHeat{heat(1000, 200000, 400000, 10), heat(1200, 500000, 600000, 30)},
		Cools:   []api.SteelCool{cool(600, one(0), one(0)), cool(800, span(200000, 500000), span(50000, 100000))},
		Colds:   []api.SteelCold{cold(300, 900000, 950000), cold(500, 100000, 300000)},
		Tempers: []api.SteelTemper{temper(400, 5)},
		Hard:    [4]int{200, 250, 400, 800},
	}
}

// changed is the rules of the examples with a change.
func changed(change func(*api.SteelRules)) api.SteelRules {
	r := example()
	change(&r)
	return r
}

// parent is parent steel alone, austenite austenite alone.
func parent() api.SteelState    { return api.SteelState{Parent: whole} }
func austenite() api.SteelState { return api.SteelState{Austenite: whole} }

// between is a random number from lo to hi, often one of these.
func between(random *rand.Rand, lo, hi int) int {
	switch random.Intn(8) {
	case 0:
		return lo
	case 1:
		return hi
	}
	return lo + random.Intn(hi-lo+1)
}

// someRange is a range from lo to hi.
func someRange(random *rand.Rand, lo, hi int) api.Range {
	a, b := between(random, lo, hi), between(random, lo, hi)
	return span(min(a, b), max(a, b))
}

// someKelvins are up to 8 ascending temperatures below a limit, some of them near one another.
func someKelvins(random *rand.Rand, lo, below int) []int {
	var l []int
	kelvin := lo + random.Intn(200)
	for range random.Intn(api.MaxSteelKnots + 1) {
		if kelvin < below {
			l = append(l, kelvin)
		}
		kelvin += 1 + random.Intn([]int{1, 20, 150}[random.Intn(3)])
	}
	return l
}

// someRising are so many ranges, no end of which is less than that of the one before.
func someRising(random *rand.Rand, count int) []api.Range {
	most := []int{1000, 50000, whole}[random.Intn(3)]
	var lo, hi []int
	for range count {
		r := someRange(random, 0, most)
		lo, hi = append(lo, r.Lo), append(hi, r.Hi)
	}
	slices.Sort(lo)
	slices.Sort(hi)
	var l []api.Range
	for i := range lo {
		l = append(l, span(lo[i], hi[i]))
	}
	return l
}

// someRules are valid rules.
func someRules(random *rand.Rand) api.SteelRules {
	var r api.SteelRules
	hot := 400 + random.Intn(500)
	kelvins := someKelvins(random, hot, api.MaxSteelKelvin)
	if len(kelvins) > 0 {
		hot = kelvins[0]
	}
	for i, rate := range someRising(random, len(kelvins)) {
		r.Heats = append(r.Heats, heat(kelvins[i], rate.Lo, rate.Hi, between(random, 0, 2000)))
	}
	for _, kelvin := range someKelvins(random, 1+random.Intn(400), hot) {
		r.Cools = append(r.Cools, cool(kelvin, someRange(random, 0, whole), someRange(random, 0, whole/10)))
	}
	kelvins = someKelvins(random, 1+random.Intn(300), hot)
	shares := someRising(random, len(kelvins))
	slices.Reverse(shares)
	for i, share := range shares {
		r.Colds = append(r.Colds, cold(kelvins[i], share.Lo, share.Hi))
	}
	for _, kelvin := range someKelvins(random, 1+random.Intn(300), hot) {
		r.Tempers = append(r.Tempers, temper(kelvin, between(random, 0, []int{10, 1000, whole}[random.Intn(3)])))
	}
	hard := []int{random.Intn(300), random.Intn(500), random.Intn(1000), between(random, 0, api.MaxSteelHardness)}
	slices.Sort(hard)
	copy(r.Hard[:], hard)
	return r
}

// someCurve is up to so many temperatures.
func someCurve(random *rand.Rand, most int) []int {
	var l []int
	for range random.Intn(most + 1) {
		l = append(l, between(random, 1, 300+random.Intn(1000)))
	}
	return l
}

// around is ranges of temperatures that contain those of a curve.
func around(random *rand.Rand, curve []int) []api.Range {
	var l []api.Range
	for _, kelvin := range curve {
		lo := between(random, max(1, kelvin-50), kelvin)
		l = append(l, span(lo, between(random, kelvin, min(api.MaxSteelKelvin, lo+50))))
	}
	return l
}

// somePick is a steel.
func somePick(random *rand.Rand) api.SteelPick {
	some := func() int { return between(random, 0, api.SteelPart) }
	return api.SteelPick{Heat: some(), Cool: some(), Cold: some()}
}

// someState is a valid state.
func someState(random *rand.Rand) api.SteelState {
	cuts := []int{between(random, 0, whole), between(random, 0, whole), between(random, 0, whole)}
	slices.Sort(cuts)
	return api.SteelState{
		Parent: cuts[0], Austenite: cuts[1] - cuts[0], Bainite: cuts[2] - cuts[1], Martensite: whole - cuts[2],
		Wait:   between(random, 0, whole),
		Grain:  between(random, 0, api.MaxSteelGrain),
		Temper: between(random, 0, []int{100, 2000, api.MaxSteelTemper}[random.Intn(3)]),
	}
}

// someBox is a box that contains a state.
func someBox(random *rand.Rand, s api.SteelState) api.SteelBox {
	about := func(n, most int) api.Range {
		far := []int{0, 100, most}[random.Intn(3)]
		return span(between(random, max(0, n-far), n), between(random, n, min(most, n+far)))
	}
	return api.SteelBox{
		Parent: about(s.Parent, whole), Austenite: about(s.Austenite, whole), Bainite: about(s.Bainite, whole), Martensite: about(s.Martensite, whole),
		Wait:   about(s.Wait, whole),
		Grain:  about(s.Grain, api.MaxSteelGrain),
		Temper: about(s.Temper, api.MaxSteelTemper),
	}
}

// sharesIn are the ranges of shares of a box.
func sharesIn(b api.SteelBox) [4]api.Range {
	return [4]api.Range{b.Parent, b.Austenite, b.Bainite, b.Martensite}
}

// someIn is a state in a box.
func someIn(random *rand.Rand, b api.SteelBox) api.SteelState {
	ranges := sharesIn(b)
	var shares [4]int
	left, space := whole, 0
	for i, r := range ranges {
		shares[i] = r.Lo
		left -= r.Lo
		space += r.Hi - r.Lo
	}
	for _, i := range random.Perm(4) {
		room := ranges[i].Hi - ranges[i].Lo
		space -= room
		n := between(random, max(0, left-space), min(left, room))
		shares[i] += n
		left -= n
	}
	return api.SteelState{
		Parent: shares[0], Austenite: shares[1], Bainite: shares[2], Martensite: shares[3],
		Wait:   between(random, b.Wait.Lo, b.Wait.Hi),
		Grain:  between(random, b.Grain.Lo, b.Grain.Hi),
		Temper: between(random, b.Temper.Lo, b.Temper.Hi),
	}
}

// isIn is whether a state lies in a box.
func isIn(s api.SteelState, b api.SteelBox) bool {
	in := func(n int, r api.Range) bool { return r.Lo <= n && n <= r.Hi }
	return in(s.Parent, b.Parent) && in(s.Austenite, b.Austenite) && in(s.Bainite, b.Bainite) && in(s.Martensite, b.Martensite) &&
		in(s.Wait, b.Wait) && in(s.Grain, b.Grain) && in(s.Temper, b.Temper)
}

// rulesOf does something with many valid rules.
func rulesOf(t *testing.T, do func(random *rand.Rand, r api.SteelRules)) {
	t.Helper()
	random := rand.New(rand.NewSource(4))
	for range 3000 {
		r := someRules(random)
		if i, e := steel.CheckRules(r); i != 0 || e != api.OK {
			t.Fatalf("CheckRules %+v: %d, %d", r, i, e)
		}
		do(random, r)
	}
}

// found is the knots at a temperature by the definition.
type found struct {
	heat   *api.SteelHeat
	cool   *api.SteelCool
	cold   *api.SteelCold
	temper *api.SteelTemper
}

// foundAt are the knots at a temperature.
func foundAt(r api.SteelRules, kelvin int) found {
	var f found
	for i := range r.Heats {
		if r.Heats[i].Kelvin <= kelvin {
			f.heat = &r.Heats[i]
		}
	}
	for i := range r.Cools {
		if f.cool == nil && r.Cools[i].Kelvin >= kelvin {
			f.cool = &r.Cools[i]
		}
	}
	for i := range r.Colds {
		if f.cold == nil && r.Colds[i].Kelvin >= kelvin {
			f.cold = &r.Colds[i]
		}
	}
	for i := range r.Tempers {
		if r.Tempers[i].Kelvin <= kelvin {
			f.temper = &r.Tempers[i]
		}
	}
	return f
}

// exactStep is a step by the definition.
func exactStep(r api.SteelRules, s api.SteelState, kelvin int, p api.SteelPick) api.SteelState {
	has := func(x api.Range, part int) int { return (1000*x.Lo + (x.Hi-x.Lo)*part) / 1000 }
	f := foundAt(r, kelvin)
	if f.heat != nil {
		s.Parent += s.Bainite + s.Martensite
		s.Bainite, s.Martensite, s.Wait, s.Temper = 0, 0, 0, 0
		rate := has(f.heat.Rate, p.Heat)
		if rate > s.Parent {
			rate = s.Parent
		}
		s.Parent, s.Austenite = s.Parent-rate, s.Austenite+rate
		if s.Austenite > 0 {
			s.Grain += f.heat.Growth
		}
		if s.Grain > 100000 {
			s.Grain = 100000
		}
		return s
	}
	if f.cool != nil {
		s.Wait += has(f.cool.Wait, p.Cool)
		if s.Wait >= 1000000 {
			s.Wait = 1000000
			rate := has(f.cool.Rate, p.Cool)
			if rate > s.Austenite {
				rate = s.Austenite
			}
			s.Austenite, s.Bainite = s.Austenite-rate, s.Bainite+rate
		}
	}
	if f.cold != nil {
		both := s.Austenite + s.Martensite
		if m := both * has(f.cold.Share, p.Cold) / 1000000; m > s.Martensite {
			s.Martensite, s.Austenite = m, both-m
		}
	}
	if f.temper != nil {
		s.Temper += f.temper.Rate
		if s.Temper > 1000000 {
			s.Temper = 1000000
		}
	}
	return s
}

// exactRun is a run by the definition.
func exactRun(r api.SteelRules, s api.SteelState, curve []int, p api.SteelPick) api.SteelState {
	for _, kelvin := range curve {
		s = exactStep(r, s, kelvin, p)
	}
	return s
}

// exactHardness is the hardness of a state by the definition.
func exactHardness(r api.SteelRules, s api.SteelState) int {
	martensite := r.Hard[3] - s.Temper
	if martensite < r.Hard[2] {
		martensite = r.Hard[2]
	}
	return (s.Parent*r.Hard[0] + s.Austenite*r.Hard[1] + s.Bainite*r.Hard[2] + s.Martensite*martensite) / 1000000
}

// corners is the range of all values of a function at the ends of ranges.
func corners(f func(x []int) int, ranges ...api.Range) api.Range {
	var r api.Range
	for mask := range 1 << len(ranges) {
		x := make([]int, len(ranges))
		for i := range ranges {
			x[i] = ranges[i].Lo
			if mask>>i&1 == 1 {
				x[i] = ranges[i].Hi
			}
		}
		n := f(x)
		if mask == 0 {
			r = one(n)
		}
		r = span(min(r.Lo, n), max(r.Hi, n))
	}
	return r
}

// exactHot is the step of a box at a hot temperature: all ends of the ranges below are tried.
func exactHot(k api.SteelHeat, b api.SteelBox) api.SteelBox {
	q := span(b.Parent.Lo+b.Bainite.Lo+b.Martensite.Lo, min(whole, b.Parent.Hi+b.Bainite.Hi+b.Martensite.Hi))
	left := func(x []int) int { return max(0, x[0]-x[1]) }
	after := api.SteelBox{
		Parent:    corners(left, q, k.Rate),
		Austenite: corners(func(x []int) int { return whole - left(x) }, q, k.Rate),
		Grain:     b.Grain,
	}
	if after.Austenite.Lo > 0 {
		after.Grain.Lo = min(100000, b.Grain.Lo+k.Growth)
	}
	if after.Austenite.Hi > 0 {
		after.Grain.Hi = min(100000, b.Grain.Hi+k.Growth)
	}
	return after
}

// exactBoxAt is the step of a box at one temperature: all ends of the ranges below are tried.
func exactBoxAt(r api.SteelRules, b api.SteelBox, kelvin int) api.SteelBox {
	f := foundAt(r, kelvin)
	if f.heat != nil {
		return exactHot(*f.heat, b)
	}
	if f.cool != nil {
		b.Wait = corners(func(x []int) int { return min(whole, x[0]+x[1]) }, b.Wait, f.cool.Wait)
		var g api.Range
		if b.Wait.Lo == whole {
			g.Lo = f.cool.Rate.Lo
		}
		if b.Wait.Hi == whole {
			g.Hi = f.cool.Rate.Hi
		}
		b.Bainite = corners(func(x []int) int { return min(whole, x[0]+min(x[1], x[2])) }, b.Bainite, b.Austenite, g)
		b.Austenite = corners(func(x []int) int { return max(0, x[0]-x[1]) }, b.Austenite, g)
	}
	if f.cold != nil {
		after := func(x []int) int { return max(x[1], (x[0]+x[1])*x[2]/whole) }
		martensite := corners(func(x []int) int { return min(whole, after(x)) }, b.Austenite, b.Martensite, f.cold.Share)
		b.Austenite = corners(func(x []int) int { return x[0] + x[1] - after(x) }, b.Austenite, b.Martensite, f.cold.Share)
		b.Martensite = martensite
	}
	if f.temper != nil {
		b.Temper = span(min(1000000, b.Temper.Lo+f.temper.Rate), min(1000000, b.Temper.Hi+f.temper.Rate))
	}
	return b
}

// exactBoxStep is the step of a box with a range: each temperature is tried.
func exactBoxStep(r api.SteelRules, b api.SteelBox, kelvins api.Range) api.SteelBox {
	hull := func(x, y api.Range) api.Range { return span(min(x.Lo, y.Lo), max(x.Hi, y.Hi)) }
	after := exactBoxAt(r, b, kelvins.Lo)
	for kelvin := kelvins.Lo + 1; kelvin <= kelvins.Hi; kelvin++ {
		x := exactBoxAt(r, b, kelvin)
		after = api.SteelBox{
			Parent: hull(after.Parent, x.Parent), Austenite: hull(after.Austenite, x.Austenite), Bainite: hull(after.Bainite, x.Bainite), Martensite: hull(after.Martensite, x.Martensite),
			Wait: hull(after.Wait, x.Wait), Grain: hull(after.Grain, x.Grain), Temper: hull(after.Temper, x.Temper),
		}
	}
	return after
}

// exactBoxRun is the box after all ranges.
func exactBoxRun(r api.SteelRules, b api.SteelBox, curve []api.Range) api.SteelBox {
	for _, kelvins := range curve {
		b = exactBoxStep(r, b, kelvins)
	}
	return b
}

// vertices are the shares in a box of which all but one are an end of their range; the extremes of a sum are among them.
func vertices(b api.SteelBox) [][4]int {
	ranges := sharesIn(b)
	var l [][4]int
	for free := range 4 {
		for mask := range 16 {
			var shares [4]int
			left := whole
			for i, r := range ranges {
				if i == free {
					continue
				}
				shares[i] = r.Lo
				if mask>>i&1 == 1 {
					shares[i] = r.Hi
				}
				left -= shares[i]
			}
			shares[free] = left
			if ranges[free].Lo <= left && left <= ranges[free].Hi {
				l = append(l, shares)
			}
		}
	}
	return l
}

// exactBand is the band of a box: all vertices are tried.
func exactBand(r api.SteelRules, b api.SteelBox) api.Range {
	band := span(1<<60, -1)
	for _, x := range vertices(b) {
		s := api.SteelState{Parent: x[0], Austenite: x[1], Bainite: x[2], Martensite: x[3], Temper: b.Temper.Hi}
		band.Lo = min(band.Lo, exactHardness(r, s))
		s.Temper = b.Temper.Lo
		band.Hi = max(band.Hi, exactHardness(r, s))
	}
	return band
}
