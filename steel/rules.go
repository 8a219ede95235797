// Package steel is chapter 4: steel while it is heated, cooled and tempered. See shared/doc/04-steel.md.
package steel

import (
	"iter"
	"slices"

	"martensite/api"
)

// rules is rules without an error.
type rules struct{ api.SteelRules }

// knot is what a knot of any kind has: a temperature, ranges, and a growth or a rate beside them.
type knot struct {
	kelvin  int
	ranges  []api.Range
	amounts []int
}

// place is the index of the knot of each kind at a temperature, -1 where there is none.
type place struct{ heat, cool, cold, temper int }

// heatKnot is a knot of Heats.
func heatKnot(k api.SteelHeat) knot {
	return knot{k.Kelvin, []api.Range{k.Rate}, []int{k.Growth}}
}

// coolKnot is a knot of Cools.
func coolKnot(k api.SteelCool) knot { return knot{k.Kelvin, []api.Range{k.Wait, k.Rate}, nil} }

// coldKnot is a knot of Colds.
func coldKnot(k api.SteelCold) knot { return knot{k.Kelvin, []api.Range{k.Share}, nil} }

// temperKnot is a knot of Tempers.
func temperKnot(k api.SteelTemper) knot { return knot{k.Kelvin, nil, []int{k.Rate}} }

// numbers are the numbers of a knot, in the order of its string.
func (k knot) numbers() []int {
	l := []int{k.kelvin}
	for _, r := range k.ranges {
		l = append(l, r.Lo, r.Hi)
	}
	return append(l, k.amounts...)
}

// ownError is the error that a knot has by itself.
func (k knot) ownError() api.Errno {
	backward := func(r api.Range) bool { return r.Lo > r.Hi }
	return firstOf(
		kelvinError(k.kelvin),
		rangeError(0, api.SteelWhole, k.numbers()[1:]...),
		errorIf(slices.ContainsFunc(k.ranges, backward), api.ErrForm))
}

// later is whether a knot is at a greater temperature than the one before.
func later(before, next knot) bool { return next.kelvin > before.kelvin }

// noLess is whether no end of the range of a knot is less than that of another one.
func noLess(k, other knot) bool {
	a, b := k.ranges[0], other.ranges[0]
	return a.Lo >= b.Lo && a.Hi >= b.Hi
}

// rising is whether a knot of Heats may follow the one before.
func rising(before, next knot) bool { return later(before, next) && noLess(next, before) }

// falling is whether a knot of Colds may follow the one before.
func falling(before, next knot) bool { return later(before, next) && noLess(before, next) }

// knotsFault finds the error of knots of a kind; follows is whether a knot may follow the one before.
func knotsFault[K any](items []K, knotOf func(K) knot, follows func(before, next knot) bool) fault {
	for i, item := range items {
		k := knotOf(item)
		e := firstOf(
			k.ownError(),
			errorIf(i > 0 && !follows(knotOf(items[i-1]), k), api.ErrOrder))
		if e != api.OK {
			return fault{i, e}
		}
	}
	return fault{}
}

// reaches is whether the last knot of a kind is at least at a temperature.
func reaches[K any](items []K, knotOf func(K) knot, kelvin int) bool {
	return len(items) > 0 && knotOf(items[len(items)-1]).kelvin >= kelvin
}

// clashError is ErrClash if knots of another kind reach the first one of Heats.
func clashError(r api.SteelRules) api.Errno {
	if len(r.Heats) == 0 {
		return api.OK
	}
	hot := r.Heats[0].Kelvin
	reach := reaches(r.Cools, coolKnot, hot) || reaches(r.Colds, coldKnot, hot) || reaches(r.Tempers, temperKnot, hot)
	return errorIf(reach, api.ErrClash)
}

// hardsError is the error of the hardness of all shares.
func hardsError(hard [4]int) api.Errno {
	return firstOf(
		rangeError(0, api.MaxSteelHardness, hard[:]...),
		errorIf(!slices.IsSorted(hard[:]), api.ErrOrder))
}

// rulesError is the error of rules.
func rulesError(r api.SteelRules) api.Errno {
	_, e := CheckRules(r)
	return e
}

// lastUpTo is the index of the last knot whose temperature is at most another one, -1 if there is none.
func lastUpTo[K any](items []K, kelvinOf func(K) int, kelvin int) int {
	above := func(k K) bool { return kelvinOf(k) > kelvin }
	if i := slices.IndexFunc(items, above); i >= 0 {
		return i - 1
	}
	return len(items) - 1
}

// firstFrom is the index of the first knot whose temperature is at least another one, -1 if there is none.
func firstFrom[K any](items []K, kelvinOf func(K) int, kelvin int) int {
	return slices.IndexFunc(items, func(k K) bool { return kelvinOf(k) >= kelvin })
}

// placeAt is the place of a temperature.
func (r rules) placeAt(kelvin int) place {
	return place{
		heat:   lastUpTo(r.Heats, func(k api.SteelHeat) int { return k.Kelvin }, kelvin),
		cool:   firstFrom(r.Cools, func(k api.SteelCool) int { return k.Kelvin }, kelvin),
		cold:   firstFrom(r.Colds, func(k api.SteelCold) int { return k.Kelvin }, kelvin),
		temper: lastUpTo(r.Tempers, func(k api.SteelTemper) int { return k.Kelvin }, kelvin),
	}
}

// placesIn yields the places of the temperatures of a range. A place that is that of the temperature before is left out, as the same is done there.
func (r rules) placesIn(kelvins api.Range) iter.Seq[place] {
	return func(yield func(place) bool) {
		var before place
		for kelvin := kelvins.Lo; kelvin <= kelvins.Hi; kelvin++ {
			p := r.placeAt(kelvin)
			if kelvin > kelvins.Lo && p == before {
				continue
			}
			if !yield(p) {
				return
			}
			before = p
		}
	}
}

// CheckRules finds the error of rules, and the index of the knot that has it.
func CheckRules(r api.SteelRules) (int, api.Errno) {
	most := max(len(r.Heats), len(r.Cools), len(r.Colds), len(r.Tempers))
	return firstFault(
		fault{e: errorIf(most > api.MaxSteelKnots, api.ErrLarge)},
		knotsFault(r.Heats, heatKnot, rising),
		knotsFault(r.Cools, coolKnot, later),
		knotsFault(r.Colds, coldKnot, falling),
		knotsFault(r.Tempers, temperKnot, later),
		fault{e: clashError(r)},
		fault{e: hardsError(r.Hard)})
}
