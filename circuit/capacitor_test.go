package circuit_test

import (
	"math"
	"math/rand"
	"slices"
	"testing"

	"martensite/api"
	"martensite/circuit"
)

// setByTrying is the minimum set, found by trying all sets.
func setByTrying(elastances []int, target api.Range) ([]int, api.Errno) {
	var best []int
	found := false
	for sets := range 1 << len(elastances) {
		var set []int
		sum := 0
		for i, n := range elastances {
			if sets>>i&1 > 0 {
				set = append(set, i)
				sum += n
			}
		}
		if !inside(target, sum) {
			continue
		}
		if !found || len(set) < len(best) || len(set) == len(best) && slices.Compare(set, best) < 0 {
			best, found = set, true
		}
	}
	if !found {
		return nil, api.ErrNone
	}
	return best, api.OK
}

// P1.5, P1.13
func TestCapacitorsByTrying(t *testing.T) {
	random := rand.New(rand.NewSource(3))
	found := map[api.Errno]int{}
	for range 3000 {
		elastances := make([]int, random.Intn(api.MaxCircuitCapacitors+1))
		most := []int{3, 20, api.MaxCircuitElastance}[random.Intn(3)]
		for i := range elastances {
			elastances[i] = 1 + random.Intn(most)
		}
		lo := random.Intn(most * 5)
		target := span(lo, lo+random.Intn(most/3+1))
		set, e := circuit.CapacitorsFor(elastances, target)
		best, f := setByTrying(elastances, target)
		want(t, "CapacitorsFor", set, e, best, f)
		found[e]++
	}
	if found[api.OK] < 100 || found[api.ErrNone] < 100 {
		t.Errorf("too few sets: %v", found)
	}
}

// P1.5, example 9 and edge cases
func TestCapacitorsFor(t *testing.T) {
	l := []int{5, 8, 3}
	most := slices.Repeat([]int{api.MaxCircuitElastance}, api.MaxCircuitCapacitors)
	for _, x := range []struct {
		l      []int
		target api.Range
		set    []int
		e      api.Errno
	}{
		{l, span(10, 12), []int{1, 2}, api.OK},
		{l, span(13, 13), []int{0, 1}, api.OK},
		{l, span(16, 6000), []int{0, 1, 2}, api.OK},
		{l, span(0, 12), nil, api.OK},
		{l, span(0, 0), nil, api.OK},
		{nil, span(0, 6000), nil, api.OK},
		{nil, span(1, 6000), nil, api.ErrNone},
		{l, span(17, 20), nil, api.ErrNone},
		{l, span(1, 2), nil, api.ErrNone},
		{[]int{4, 1, 3, 4}, span(4, 4), []int{0}, api.OK},
		{[]int{2, 1, 3, 2}, span(4, 4), []int{0, 3}, api.OK},
		{most, span(6000, 6000), []int{0, 1, 2, 3, 4, 5, 6, 7, 8, 9}, api.OK},
		{append(most, 0), span(-1, 0), nil, api.ErrLarge},
		{[]int{5, 0}, span(2, 1), nil, api.ErrRange},
		{[]int{601, 5}, span(2, 1), nil, api.ErrRange},
		{[]int{-5}, span(0, 1), nil, api.ErrRange},
		{[]int{math.MaxInt, math.MaxInt}, span(0, 1), nil, api.ErrRange},
		{l, span(1, -1), nil, api.ErrRange},
		{l, span(6001, 0), nil, api.ErrRange},
		{l, span(-1, 6000), nil, api.ErrRange},
		{l, span(0, 6001), nil, api.ErrRange},
		{l, span(math.MinInt, math.MaxInt), nil, api.ErrRange},
		{l, span(12, 10), nil, api.ErrOrder},
	} {
		set, e := circuit.CapacitorsFor(x.l, x.target)
		want(t, "CapacitorsFor", set, e, x.set, x.e)
	}
}
