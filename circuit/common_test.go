package circuit_test

import (
	"fmt"
	"math/rand"
	"testing"

	"martensite/api"
	"martensite/circuit"
)

// same compares two values as they are printed, so that nil and empty slices are equal.
func same(a, b any) bool { return fmt.Sprintf("%+v", a) == fmt.Sprintf("%+v", b) }

// want compares a result and an error with those that are expected.
func want(t *testing.T, what string, got any, e api.Errno, value any, f api.Errno) {
	t.Helper()
	if !same(got, value) || e != f {
		t.Errorf("%s: %+v, %d, want %+v, %d", what, got, e, value, f)
	}
}

// state is a state of switches.
func state(l ...int) api.CircuitState { return api.CircuitState{Switches: l} }

// program is the program of a string.
func program(t *testing.T, s string) []api.CircuitCommand {
	t.Helper()
	l, e := circuit.ParseProgram(s)
	if e != api.OK {
		t.Fatalf("no program: %q, %d", s, e)
	}
	return l
}

// ladder is the circuit of a string.
func ladder(t *testing.T, s string) api.CircuitLadder {
	t.Helper()
	c, e := circuit.ParseCircuit(s)
	if e != api.OK {
		t.Fatalf("no circuit: %q, %d", s, e)
	}
	return c
}

// span is a range.
func span(lo, hi int) api.Range { return api.Range{Lo: lo, Hi: hi} }

// states are all states of a bridge.
func states(b api.CircuitBridge) []api.CircuitState {
	all := []api.CircuitState{{}}
	for range 2 * b.Legs {
		var longer []api.CircuitState
		for _, s := range all {
			for n := api.CircuitOn; n <= b.Fall; n++ {
				longer = append(longer, state(append(append([]int{}, s.Switches...), n)...))
			}
		}
		all = longer
	}
	return all
}

// bridges are all bridges.
func bridges() []api.CircuitBridge {
	var all []api.CircuitBridge
	for legs := 1; legs <= api.MaxCircuitLegs; legs++ {
		for fall := 0; fall <= api.MaxCircuitFall; fall++ {
			all = append(all, api.CircuitBridge{Legs: legs, Fall: fall}, api.CircuitBridge{Legs: legs, Fall: fall, Locked: true})
		}
	}
	return all
}

// commands are all commands of a bridge with the given waits.
func commands(b api.CircuitBridge, waits ...int) []api.CircuitCommand {
	var all []api.CircuitCommand
	for leg := range b.Legs {
		for _, w := range waits {
			for i := range 4 {
				all = append(all, api.CircuitCommand{Leg: leg, Upper: i&1 > 0, On: i&2 > 0, Wait: w})
			}
		}
	}
	return all
}

// programs does something with all programs of one or two commands with some waits, and with longer ones, and their bridges.
func programs(do func(b api.CircuitBridge, l []api.CircuitCommand)) {
	for _, b := range bridges() {
		all := commands(b, 0, 1, 3)
		for _, c := range all {
			do(b, []api.CircuitCommand{c})
			for _, d := range all {
				do(b, []api.CircuitCommand{c, d})
			}
		}
	}
	random := rand.New(rand.NewSource(1))
	for range 2000 {
		b := bridges()[random.Intn(len(bridges()))]
		all := commands(b, 0, 1, 2, 3, 4, 20)
		l := make([]api.CircuitCommand, 3+random.Intn(api.MaxCircuitCommands-2))
		for i := range l {
			l[i] = all[random.Intn(len(all))]
		}
		do(b, l)
	}
}

// someLadder is a valid circuit, with extreme parts among them.
func someLadder(random *rand.Rand) api.CircuitLadder {
	pick := func(most int) int {
		switch random.Intn(4) {
		case 0:
			return 0
		case 1:
			return most
		}
		return random.Intn(most + 1)
	}
	part := func(shunt bool) api.CircuitPart {
		return api.CircuitPart{Resistance: pick(api.MaxCircuitResistance), Inductance: pick(api.MaxCircuitInductance), Elastance: pick(api.MaxCircuitElastance), Shunt: shunt}
	}
	c := api.CircuitLadder{Load: part(false)}
	for range random.Intn(api.MaxCircuitParts + 1) {
		c.Parts = append(c.Parts, part(random.Intn(2) == 0))
	}
	return c
}

// ladders does something with circuits and frequencies, the largest phasors among them.
func ladders(do func(c api.CircuitLadder, frequency int)) {
	random := rand.New(rand.NewSource(2))
	for range 20000 {
		do(someLadder(random), 1+random.Intn(api.MaxCircuitFrequency))
	}
	most := api.CircuitPart{Resistance: api.MaxCircuitResistance, Elastance: api.MaxCircuitElastance}
	for i := range 4 {
		one, two := most, most
		one.Shunt, two.Shunt = i&1 > 0, i&2 > 0
		for f := 1; f <= api.MaxCircuitFrequency; f++ {
			do(api.CircuitLadder{Load: most, Parts: []api.CircuitPart{one, two}}, f)
		}
	}
}

// loops does something with loops of all kinds.
func loops(do func(x api.CircuitLoop)) {
	for _, fs := range []api.Range{span(1, 12), span(2, 6), span(4, 5), span(4, 4), span(1, 2), span(9, 12)} {
		for _, ls := range []api.Range{span(1, 2), span(0, 4), span(0, 0), span(2, 4), span(3, 3)} {
			for _, elastance := range []int{0, 20, 33, 144, 600} {
				for _, band := range []int{0, 5, 40} {
					for _, drift := range []int{0, 1, 4} {
						x := api.CircuitLoop{Frequencies: fs, Inductances: ls, Elastance: elastance, Band: band, Drift: drift}
						for _, f := range []int{fs.Lo, (fs.Lo + fs.Hi) / 2, fs.Hi} {
							x.Start = api.CircuitFollow{Frequency: f, Inductance: ls.Lo}
							do(x)
							x.Start.Inductance = ls.Hi
							do(x)
						}
					}
				}
			}
		}
	}
}
