package heat_test

import (
	"fmt"
	"math/big"
	"math/rand"
	"slices"
	"testing"

	"martensite/api"
	"martensite/heat"
)

// same compares two values as they are printed, so that nil and empty slices are equal.
func same(a, b any) bool { return fmt.Sprintf("%+v", a) == fmt.Sprintf("%+v", b) }

// want compares a result and an error with those that are expected.
func want(t *testing.T, what string, got any, e api.Errno, value any, f api.Errno) {
	t.Helper()
	if !same(got, value) || e != f {
		t.Errorf("%s: %+v, %d, want %+v, %d", what, got, e, value, f)
	}
}

// span is a range.
func span(lo, hi int) api.Range { return api.Range{Lo: lo, Hi: hi} }

// knots is a table of energies and temperatures in turn.
func knots(numbers ...int) []api.HeatKnot {
	var l []api.HeatKnot
	for i := 0; i+1 < len(numbers); i += 2 {
		l = append(l, api.HeatKnot{Energy: numbers[i], Kelvin: numbers[i+1]})
	}
	return l
}

// law is a law of temperatures and losses in turn.
func law(numbers ...int) []api.HeatPoint {
	var l []api.HeatPoint
	for i := 0; i+1 < len(numbers); i += 2 {
		l = append(l, api.HeatPoint{Kelvin: numbers[i], Loss: numbers[i+1]})
	}
	return l
}

// drive is a drive by a law.
func drive(law int, powers ...int) api.HeatDrive { return api.HeatDrive{Powers: powers, Law: law} }

// box is a box of lower and upper energies.
func box(lo, hi []int) api.HeatBox { return api.HeatBox{Lo: lo, Hi: hi} }

// example is the set-up of the document's examples.
func example() api.HeatSetup {
	return api.HeatSetup{
		Cells: 3, Exchange: 500,
		Table: knots(0, 300, 1000, 800, 3000, 1300),
		Laws:  [][]api.HeatPoint{law(300, 0), law(300, 0, 1300, 400)},
	}
}

// plain is a set-up of one-to-one temperatures from 300 to 1300, which loses nothing.
func plain(cells, exchange int) api.HeatSetup {
	return api.HeatSetup{Cells: cells, Exchange: exchange, Table: knots(0, 300, 1000, 1300), Laws: [][]api.HeatPoint{nil}}
}

// bounds are the least and the greatest energy of a set-up.
func bounds(s api.HeatSetup) (int, int) { return s.Table[0].Energy, s.Table[len(s.Table)-1].Energy }

// between is a random number from lo to hi, often one of these.
func between(random *rand.Rand, lo, hi int) int {
	switch random.Intn(8) {
	case 0:
		return lo
	case 1:
		return hi
	}
	return lo + random.Intn(hi-lo+1)
}

// someTable is a valid table.
func someTable(random *rand.Rand) []api.HeatKnot {
	widest := []int{20, 400, 3000, 100000}[random.Intn(4)]
	l := knots(random.Intn(300), between(random, 200, 400))
	for range 1 + random.Intn(api.MaxHeatKnots-1) {
		last := l[len(l)-1]
		energy := 1 + random.Intn(widest)
		kelvin := between(random, 1, min(energy, 300))
		l = append(l, api.HeatKnot{Energy: last.Energy + energy, Kelvin: last.Kelvin + kelvin})
	}
	return l
}

// someLaw is a law with valid points, if it is not too steep.
func someLaw(random *rand.Rand, least int) []api.HeatPoint {
	var l []api.HeatPoint
	kelvin, loss := between(random, 200, 900), least
	for range random.Intn(api.MaxHeatPoints + 1) {
		l = append(l, api.HeatPoint{Kelvin: kelvin, Loss: loss})
		warmer := 1 + random.Intn(300)
		kelvin += warmer
		loss = min(loss+between(random, 0, warmer/2), api.MaxHeatLoss)
	}
	return l
}

// someSetup is a valid set-up with at least one law.
func someSetup(random *rand.Rand) api.HeatSetup {
	s := api.HeatSetup{Cells: 1 + random.Intn(api.MaxHeatCells), Exchange: between(random, 0, api.MaxHeatExchange), Table: someTable(random)}
	for len(s.Laws) == 0 || random.Intn(3) > 0 && len(s.Laws) < api.MaxHeatLaws {
		next := s
		next.Laws = append(slices.Clone(s.Laws), someLaw(random, random.Intn(10)))
		if _, f := heat.CheckSetup(next); f == api.OK {
			s = next
		}
	}
	return s
}

// someState is a valid state.
func someState(random *rand.Rand, s api.HeatSetup) []int {
	lo, hi := bounds(s)
	var e []int
	for range s.Cells {
		e = append(e, between(random, lo, hi))
	}
	return e
}

// someBox is a valid box.
func someBox(random *rand.Rand, s api.HeatSetup) api.HeatBox {
	b := box(someState(random, s), someState(random, s))
	for i := range b.Lo {
		b.Lo[i], b.Hi[i] = min(b.Lo[i], b.Hi[i]), max(b.Lo[i], b.Hi[i])
	}
	return b
}

// someWithin is a state in a box.
func someWithin(random *rand.Rand, b api.HeatBox) []int {
	var e []int
	for i := range b.Lo {
		e = append(e, between(random, b.Lo[i], b.Hi[i]))
	}
	return e
}

// someSpan is a valid span with small powers.
func someSpan(random *rand.Rand, s api.HeatSetup) api.HeatSpan {
	lo, hi := bounds(s)
	most := min(api.MaxHeatPower, (hi-lo)/8+1)
	two := func(most int) api.Range {
		a, b := between(random, 0, most), between(random, 0, most)
		return span(min(a, b), max(a, b))
	}
	d := api.HeatSpan{Laws: two(len(s.Laws) - 1)}
	for range s.Cells {
		d.Powers = append(d.Powers, two(most))
	}
	return d
}

// someIn is a drive in a span.
func someIn(random *rand.Rand, d api.HeatSpan) api.HeatDrive {
	x := drive(between(random, d.Laws.Lo, d.Laws.Hi))
	for _, r := range d.Powers {
		x.Powers = append(x.Powers, between(random, r.Lo, r.Hi))
	}
	return x
}

// someDrive is a valid drive with small powers.
func someDrive(random *rand.Rand, s api.HeatSetup) api.HeatDrive {
	return someIn(random, someSpan(random, s))
}

// setups does something with many valid set-ups.
func setups(do func(random *rand.Rand, s api.HeatSetup)) {
	random := rand.New(rand.NewSource(3))
	for range 1500 {
		do(random, someSetup(random))
	}
}

// lineAt is the height of a line between two points as an exact fraction.
func lineAt(x *big.Rat, x0, y0, x1, y1 int) *big.Rat {
	slope := big.NewRat(int64(y1-y0), int64(x1-x0))
	y := new(big.Rat).Sub(x, big.NewRat(int64(x0), 1))
	y.Mul(y, slope)
	return y.Add(y, big.NewRat(int64(y0), 1))
}

// floorOf is a fraction rounded down.
func floorOf(x *big.Rat) int {
	return int(new(big.Int).Div(x.Num(), x.Denom()).Int64())
}

// exactKelvin is the temperature of an energy by the definition.
func exactKelvin(s api.HeatSetup, energy int) *big.Rat {
	for i := 1; ; i++ {
		a, b := s.Table[i-1], s.Table[i]
		if energy <= b.Energy {
			return lineAt(big.NewRat(int64(energy), 1), a.Energy, a.Kelvin, b.Energy, b.Kelvin)
		}
	}
}

// exactLoss is the loss of a law at a temperature by the definition, before it is rounded.
func exactLoss(law []api.HeatPoint, kelvin *big.Rat) *big.Rat {
	for i, b := range law {
		if kelvin.Cmp(big.NewRat(int64(b.Kelvin), 1)) > 0 {
			continue
		}
		if i == 0 {
			return big.NewRat(int64(b.Loss), 1)
		}
		return lineAt(kelvin, law[i-1].Kelvin, law[i-1].Loss, b.Kelvin, b.Loss)
	}
	if len(law) == 0 {
		return new(big.Rat)
	}
	return big.NewRat(int64(law[len(law)-1].Loss), 1)
}

// exactGift is what one energy gives another one by the definition.
func exactGift(s api.HeatSetup, first, second int) int {
	n := new(big.Rat).Sub(exactKelvin(s, first), exactKelvin(s, second))
	return floorOf(n.Mul(n, big.NewRat(int64(s.Exchange), 1000)))
}

// exactStep is a step by the definition: the state after it, its loss, and the error.
func exactStep(s api.HeatSetup, e []int, d api.HeatDrive) ([]int, int, api.Errno) {
	e = slices.Clone(e)
	for _, parity := range []int{0, 1} {
		for i := range e {
			if i%2 == parity && i+1 < len(e) {
				n := exactGift(s, e[i], e[i+1])
				e[i], e[i+1] = e[i]-n, e[i+1]+n
			}
		}
	}
	lost := floorOf(exactLoss(s.Laws[d.Law], exactKelvin(s, e[0])))
	e[0] -= lost
	lo, hi := bounds(s)
	f := api.OK
	for i := range e {
		e[i] += d.Powers[i]
		if e[i] < lo || e[i] > hi {
			f = api.ErrBreak
		}
	}
	if f != api.OK {
		return nil, 0, f
	}
	return e, lost, f
}

// exactRun are the states of a run, without the first one, up to a step that leaves the table, all losses, and the error.
func exactRun(s api.HeatSetup, e []int, l []api.HeatDrive) ([][]int, int, api.Errno) {
	var states [][]int
	all := 0
	for _, d := range l {
		after, lost, f := exactStep(s, e, d)
		if f != api.OK {
			return states, all, f
		}
		states, all, e = append(states, after), all+lost, after
	}
	return states, all, api.OK
}

// exactDepth is a depth above a temperature by the definition.
func exactDepth(s api.HeatSetup, e []int, kelvin int) int {
	for i, energy := range e {
		if exactKelvin(s, energy).Cmp(big.NewRat(int64(kelvin), 1)) < 0 {
			return i
		}
	}
	return len(e)
}

// highest are the maxima of all states, cell by cell.
func highest(states ...[]int) []int {
	l := slices.Clone(states[0])
	for i := range l {
		for _, e := range states {
			l[i] = max(l[i], e[i])
		}
	}
	return l
}

// ends are the drives of both ends of a box by the definition.
func ends(l []api.HeatSpan) (lower, upper []api.HeatDrive) {
	for _, d := range l {
		lo, hi := drive(d.Laws.Hi), drive(d.Laws.Lo)
		for _, r := range d.Powers {
			lo.Powers, hi.Powers = append(lo.Powers, r.Lo), append(hi.Powers, r.Hi)
		}
		lower, upper = append(lower, lo), append(upper, hi)
	}
	return lower, upper
}

// sum is the sum of numbers.
func sum(numbers []int) int {
	n := 0
	for _, x := range numbers {
		n += x
	}
	return n
}

// total is the sum of all powers of drives.
func total(l []api.HeatDrive) int {
	n := 0
	for _, d := range l {
		n += sum(d.Powers)
	}
	return n
}
