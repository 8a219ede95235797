package shop_test

import (
	"fmt"
	"math"
	"math/big"
	"math/rand"
	"strconv"
	"testing"

	"martensite/api"
)

// same compares two values as they are printed, so that nil and empty slices are equal.
func same(a, b any) bool { return fmt.Sprintf("%+v", a) == fmt.Sprintf("%+v", b) }

// want compares a result and an error with those that are expected.
func want(t *testing.T, what string, got any, e api.Errno, value any, f api.Errno) {
	t.Helper()
	if !same(got, value) || e != f {
		t.Errorf("%s: %+v, %d, want %+v, %d", what, got, e, value, f)
	}
}

// span is a range, frac is a fraction.
func span(lo, hi int) api.Range      { return api.Range{Lo: lo, Hi: hi} }
func frac(num, den int) api.Frac     { return api.Frac{Num: num, Den: den} }
func ints(numbers ...int) []int      { return numbers }
func extremes() []int                { return ints(math.MinInt, math.MaxInt) }
func rational(num, den int) *big.Rat { return big.NewRat(int64(num), int64(den)) }

// floorOf and ceilingOf are an exact number rounded down and up.
func floorOf(x *big.Rat) int   { return int(new(big.Int).Div(x.Num(), x.Denom()).Int64()) }
func ceilingOf(x *big.Rat) int { return -floorOf(new(big.Rat).Neg(x)) }

// job is a job, jobs is a list of jobs.
func job(name string, setup, ticks, due int) api.ShopJob {
	return api.ShopJob{Name: name, Setup: setup, Ticks: ticks, Due: due}
}
func jobs(l ...api.ShopJob) []api.ShopJob { return l }

// changes is the set-up at the beginning and the rows of changes.
func changes(start int, rows ...[]int) api.ShopChanges {
	return api.ShopChanges{Start: start, Ticks: rows}
}

// lot is a lot, lots is a list of lots.
func lot(name, heat string, parts int) api.ShopLot {
	return api.ShopLot{Name: name, Heat: heat, Parts: parts}
}
func lots(l ...api.ShopLot) []api.ShopLot { return l }

// share is a share, basket is a basket of shares, baskets is a list of baskets.
func share(lot string, parts int) api.ShopShare     { return api.ShopShare{Lot: lot, Parts: parts} }
func basket(shares ...api.ShopShare) api.ShopBasket { return api.ShopBasket{Shares: shares} }
func baskets(l ...api.ShopBasket) []api.ShopBasket  { return l }

// run is a run, runs is a list of runs.
func run(start, ticks, power int) api.ShopRun {
	return api.ShopRun{Start: start, Ticks: ticks, Power: power}
}
func runs(l ...api.ShopRun) []api.ShopRun { return l }

// chart is a chart.
func chart(count, sum, squares int) api.ShopChart {
	return api.ShopChart{Count: count, Sum: sum, Squares: squares}
}

// reading is a reading of a bath, bath is a list of readings.
func reading(tick, lo, hi int) api.ShopBath        { return api.ShopBath{Tick: tick, Value: span(lo, hi)} }
func bath(readings ...api.ShopBath) []api.ShopBath { return readings }

// exampleJobs and exampleChanges are those of the document's examples, and so are exampleLots, exampleRuns and exampleBath.
func exampleJobs() []api.ShopJob {
	return jobs(job("a", 0, 5, 6), job("b", 1, 4, 9), job("c", 0, 3, 14))
}
func exampleChanges() api.ShopChanges { return changes(0, ints(0, 2), ints(2, 0)) }
func exampleLots() []api.ShopLot {
	return lots(lot("p", "h", 5), lot("q", "k", 3), lot("r", "h", 4))
}
func exampleRuns() []api.ShopRun  { return runs(run(0, 4, 10), run(2, 3, 7), run(9, 1, 12)) }
func exampleBath() []api.ShopBath { return bath(reading(0, 100, 110), reading(10, 90, 95)) }

// noNames are strings that are not names.
func noNames() []string {
	return []string{"", "1", "-", "-a", "1a", "a b", "a_", "abcdefghijklm", "\u00e9", "a\u00e9", "a.", " a", "a ", "a;", "[", "@", "`", "{", "a/", "a:", "a@", "a[", "a`", "a{", "a\x00", "a,"}
}

// someNumber is a random number from lo to hi, often one of these.
func someNumber(random *rand.Rand, lo, hi int) int {
	switch random.Intn(8) {
	case 0:
		return lo
	case 1:
		return hi
	}
	return lo + random.Intn(hi-lo+1)
}

// someRange is a range from lo to hi.
func someRange(random *rand.Rand, lo, hi int) api.Range {
	a, b := someNumber(random, lo, hi), someNumber(random, lo, hi)
	return span(min(a, b), max(a, b))
}

// someJobs are jobs of so many set-ups, whose numbers are at most so great; small ones are often equal.
func someJobs(random *rand.Rand, setups, most int) []api.ShopJob {
	var l []api.ShopJob
	for i := range 1 + random.Intn(api.MaxShopJobs) {
		l = append(l, job("j"+strconv.Itoa(i), random.Intn(setups), someNumber(random, 1, most), someNumber(random, 0, min(4*most, api.MaxShopTicks))))
	}
	return l
}

// someChanges are changes of so many set-ups, which take at most so many ticks.
func someChanges(random *rand.Rand, setups, most int) api.ShopChanges {
	c := changes(random.Intn(setups))
	for i := range setups {
		row := make([]int, setups)
		for j := range row {
			if j != i {
				row[j] = someNumber(random, 0, most)
			}
		}
		c.Ticks = append(c.Ticks, row)
	}
	return c
}

// plans calls a function with random jobs and changes.
func plans(count int, do func(*rand.Rand, []api.ShopJob, api.ShopChanges)) {
	random := rand.New(rand.NewSource(9))
	for i := range count {
		setups, most := 1+random.Intn(api.MaxShopSetups), ints(3, 20, api.MaxShopTicks)[i%3]
		do(random, someJobs(random, setups, most), someChanges(random, setups, most))
	}
}

// someLots are lots with at most so many parts, of few heats.
func someLots(random *rand.Rand, most int) []api.ShopLot {
	var l []api.ShopLot
	for i := range random.Intn(api.MaxShopLots + 1) {
		l = append(l, lot("l"+strconv.Itoa(i), "h"+strconv.Itoa(random.Intn(4)), someNumber(random, 1, most)))
	}
	return l
}

// someRuns are at most so many runs, whose numbers are at most so great.
func someRuns(random *rand.Rand, count, most int) []api.ShopRun {
	var l []api.ShopRun
	for range random.Intn(count + 1) {
		l = append(l, run(someNumber(random, 0, most), someNumber(random, 1, most), someNumber(random, 1, most)))
	}
	return l
}

// someValues are values from lo to hi.
func someValues(random *rand.Rand, lo, hi int) []int {
	var l []int
	for range 1 + random.Intn(api.MaxShopValues) {
		l = append(l, someNumber(random, lo, hi))
	}
	return l
}

// someBath is a bath with readings at most so far apart, whose values are at most so great in size.
func someBath(random *rand.Rand, apart, most int) []api.ShopBath {
	var l []api.ShopBath
	tick := random.Intn(apart)
	for range 2 + random.Intn(api.MaxShopReadings-1) {
		l = append(l, api.ShopBath{Tick: tick, Value: someRange(random, -most, most)})
		tick += 1 + random.Intn(apart)
	}
	return l
}
