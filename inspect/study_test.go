package inspect_test

import (
	"math"
	"math/big"
	"testing"

	"martensite/api"
	"martensite/inspect"
)

// badStudies are trials and hits with errors.
func badStudies() [][2]int {
	return [][2]int{
		{0, 0}, {-1, 0}, {16, 0}, {16, 16}, {math.MinInt, 0}, {math.MaxInt, 0},
		{3, -1}, {3, 4}, {15, 16}, {3, math.MinInt}, {3, math.MaxInt}, {1, 2},
	}
}

// P8.4, example 5
func TestWaysOf(t *testing.T) {
	for _, x := range []struct{ trials, hits, tenths, n int }{
		{2, 1, 5, 75},
		{3, 2, 1, 28},
		{3, 0, 4, 1000},
		{1, 1, 0, 0},
		{1, 0, 0, 10},
		{1, 1, 3, 3},
		{2, 2, 10, 100},
		{10, 10, 7, 282475249},
		{10, 10, 8, 1073741824},
		{15, 15, 10, 1000000000000000},
		{15, 0, 0, 1000000000000000},
		{15, 15, 9, 205891132094649},
		{15, 1, 9, 999999999999999},
		{15, 14, 10, 1000000000000000},
	} {
		n, e := inspect.WaysOf(x.trials, x.hits, x.tenths)
		want(t, "WaysOf", n, e, x.n, api.OK)
	}
	for _, x := range badStudies() {
		n, e := inspect.WaysOf(x[0], x[1], -1)
		want(t, "WaysOf", n, e, 0, api.ErrRange)
		n, e = inspect.WaysOf(x[0], x[1], 5)
		want(t, "WaysOf", n, e, 0, api.ErrRange)
	}
	for _, tenths := range []int{-1, 11, math.MinInt, math.MaxInt} {
		n, e := inspect.WaysOf(3, 2, tenths)
		want(t, "WaysOf", n, e, 0, api.ErrRange)
	}
}

// P8.4: all sequences of results are counted
func TestAllSequences(t *testing.T) {
	all := 1
	for trials := 1; trials <= 4; trials++ {
		all *= 10
		for tenths := range api.InspectTenths + 1 {
			counts := make([]int, trials+1)
			for results := range all {
				hits := 0
				for range trials {
					if results%10 < tenths {
						hits++
					}
					results /= 10
				}
				for atLeast := range hits + 1 {
					counts[atLeast]++
				}
			}
			for hits, wanted := range counts {
				n, e := inspect.WaysOf(trials, hits, tenths)
				want(t, "WaysOf", n, e, wanted, api.OK)
			}
		}
	}
}

// sequences is how many sequences have at least so many hits, trial by trial.
func sequences(trials, hits, tenths int) *big.Int {
	counts := []*big.Int{big.NewInt(1)}
	for range trials {
		next := make([]*big.Int, len(counts)+1)
		for i := range next {
			next[i] = new(big.Int)
		}
		for i, n := range counts {
			next[i].Add(next[i], new(big.Int).Mul(n, big.NewInt(int64(10-tenths))))
			next[i+1].Add(next[i+1], new(big.Int).Mul(n, big.NewInt(int64(tenths))))
		}
		counts = next
	}
	sum := new(big.Int)
	for _, n := range counts[hits:] {
		sum.Add(sum, n)
	}
	return sum
}

// studies calls a function with all studies, and the number of all sequences.
func studies(do func(trials, hits, all int)) {
	all := 1
	for trials := 1; trials <= api.MaxInspectTrials; trials++ {
		all *= 10
		for hits := range trials + 1 {
			do(trials, hits, all)
		}
	}
}

// P8.4, P8.11: all studies
func TestAllStudies(t *testing.T) {
	ways := func(trials, hits, tenths int) int {
		n, e := inspect.WaysOf(trials, hits, tenths)
		want(t, "WaysOf", n, e, int(sequences(trials, hits, tenths).Int64()), api.OK)
		return n
	}
	studies(func(trials, hits, all int) {
		for tenths := range api.InspectTenths + 1 {
			n := ways(trials, hits, tenths)
			if tenths > 0 && n < ways(trials, hits, tenths-1) {
				t.Errorf("WaysOf %d, %d, %d: %d is less than before", trials, hits, tenths, n)
			}
			if hits == 0 {
				want(t, "WaysOf", n, api.OK, all, api.OK)
				continue
			}
			if n > ways(trials, hits-1, tenths) {
				t.Errorf("WaysOf %d, %d, %d: %d is more than with fewer hits", trials, hits, tenths, n)
			}
			want(t, "WaysOf", n+ways(trials, trials-hits+1, 10-tenths), api.OK, all, api.OK)
		}
	})
}

// P8.4, example 5
func TestLowerShare(t *testing.T) {
	for _, x := range []struct {
		trials, hits, risk, n int
		e                     api.Errno
	}{
		{10, 10, 50, 7, api.OK},
		{3, 2, 28, 1, api.OK},
		{3, 2, 27, 0, api.OK},
		{3, 2, 0, 0, api.OK},
		{1, 1, 999, 9, api.OK},
		{1, 1, 900, 9, api.OK},
		{1, 1, 899, 8, api.OK},
		{1, 1, 99, 0, api.OK},
		{15, 15, 999, 9, api.OK},
		{15, 15, 0, 0, api.OK},
		{15, 1, 999, 3, api.OK},
		{3, 0, 999, 0, api.ErrNone},
		{15, 0, 0, 0, api.ErrNone},
		{3, 2, -1, 0, api.ErrRange},
		{3, 2, 1000, 0, api.ErrRange},
		{3, 0, 1000, 0, api.ErrRange},
		{3, 2, math.MinInt, 0, api.ErrRange},
		{3, 2, math.MaxInt, 0, api.ErrRange},
	} {
		n, e := inspect.LowerShare(x.trials, x.hits, x.risk)
		want(t, "LowerShare", n, e, x.n, x.e)
	}
	for _, x := range badStudies() {
		n, e := inspect.LowerShare(x[0], x[1], 50)
		want(t, "LowerShare", n, e, 0, api.ErrRange)
	}
}

// P8.4: by the definition, for all studies and risks
func TestLowerSharesByDefinition(t *testing.T) {
	studies(func(trials, hits, all int) {
		var parts []*big.Rat
		for tenths := range api.InspectTenths + 1 {
			parts = append(parts, new(big.Rat).SetFrac(sequences(trials, hits, tenths), big.NewInt(int64(all))))
		}
		for risk := range api.InspectThousand {
			wanted, f := 0, api.ErrNone
			for tenths, part := range parts {
				if part.Cmp(rational(risk, 1000)) <= 0 {
					wanted, f = tenths, api.OK
				}
			}
			n, e := inspect.LowerShare(trials, hits, risk)
			if n != wanted || e != f {
				t.Fatalf("LowerShare %d, %d, %d: %d, %d, want %d, %d", trials, hits, risk, n, e, wanted, f)
			}
		}
	})
}
