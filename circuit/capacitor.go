package circuit

import "martensite/api"

// firstSet is the lexicographically first set of so many capacitors, none before an index, whose elastances add up to a number in the target.
func firstSet(elastances []int, from, size int, target api.Range) ([]int, bool) {
	if size == 0 {
		return nil, within(target, 0)
	}
	for i := from; i < len(elastances); i++ {
		rest := api.Range{Lo: target.Lo - elastances[i], Hi: target.Hi - elastances[i]}
		if set, found := firstSet(elastances, i+1, size-1, rest); found {
			return append([]int{i}, set...), true
		}
	}
	return nil, false
}

// CapacitorsFor is the minimum set of capacitors whose elastances add up to a number in the target.
func CapacitorsFor(elastances []int, target api.Range) ([]int, api.Errno) {
	e := firstOf(
		errorIf(len(elastances) > api.MaxCircuitCapacitors, api.ErrLarge),
		rangeError(1, api.MaxCircuitElastance, elastances...),
		rangeError(0, api.MaxCircuitCapacitors*api.MaxCircuitElastance, target.Lo, target.Hi),
		orderError(target))
	if e != api.OK {
		return nil, e
	}
	for size := range len(elastances) + 1 {
		if set, found := firstSet(elastances, 0, size, target); found {
			return set, api.OK
		}
	}
	return nil, api.ErrNone
}
