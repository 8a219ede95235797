package circuit_test

import (
	"math"
	"testing"

	"martensite/api"
	"martensite/circuit"
)

// oneLeg is the bridge of the chapter's first example.
func oneLeg() api.CircuitBridge { return api.CircuitBridge{Legs: 1, Fall: 2} }

// badBridges are bridges with an error.
func badBridges() []api.CircuitBridge {
	return []api.CircuitBridge{
		{}, {Legs: -1}, {Legs: 3}, {Legs: math.MaxInt}, {Legs: math.MinInt},
		{Legs: 1, Fall: -1}, {Legs: 1, Fall: 4}, {Legs: 2, Fall: math.MaxInt}, {Legs: 0, Fall: 9, Locked: true}}
}

// P1.1
func TestCheckBridge(t *testing.T) {
	for _, b := range bridges() {
		want(t, "bridge", b, circuit.CheckBridge(b), b, api.OK)
	}
	for _, b := range badBridges() {
		want(t, "no bridge", b, circuit.CheckBridge(b), b, api.ErrRange)
	}
}

// P1.1
func TestCheckState(t *testing.T) {
	two := api.CircuitBridge{Legs: 2, Fall: 3}
	for _, x := range []struct {
		b     api.CircuitBridge
		s     api.CircuitState
		index int
		e     api.Errno
	}{
		{oneLeg(), state(0, 0), 0, api.OK},
		{oneLeg(), state(-1, 2), 0, api.OK},
		{two, state(-1, 3, 0, -1), 0, api.OK},
		{api.CircuitBridge{Legs: 3}, state(9), 0, api.ErrRange},
		{api.CircuitBridge{Legs: 1, Fall: 4}, state(), 0, api.ErrRange},
		{oneLeg(), state(), 0, api.ErrShape},
		{oneLeg(), state(9), 0, api.ErrShape},
		{oneLeg(), state(0, 9, 0), 0, api.ErrShape},
		{oneLeg(), state(0, 0, 0, 0), 0, api.ErrShape},
		{two, state(0, 0), 0, api.ErrShape},
		{oneLeg(), state(3, -2), 0, api.ErrRange},
		{oneLeg(), state(2, 3), 1, api.ErrRange},
		{two, state(0, 0, 3, -2), 3, api.ErrRange},
		{two, state(0, 0, 4, -2), 2, api.ErrRange},
		{api.CircuitBridge{Legs: 1}, state(0, 1), 1, api.ErrRange},
	} {
		i, e := circuit.CheckState(x.b, x.s)
		want(t, "CheckState", i, e, x.index, x.e)
	}
	for _, b := range bridges() {
		for _, s := range states(b) {
			i, e := circuit.CheckState(b, s)
			want(t, "CheckState of all states", i, e, 0, api.OK)
		}
	}
}

// P1.1
func TestCheckProgram(t *testing.T) {
	c := api.CircuitCommand{Wait: api.MaxCircuitWait}
	far := api.CircuitCommand{Leg: 1, Wait: 21}
	many := make([]api.CircuitCommand, api.MaxCircuitCommands)
	for _, x := range []struct {
		b     api.CircuitBridge
		l     []api.CircuitCommand
		index int
		e     api.Errno
	}{
		{oneLeg(), []api.CircuitCommand{c}, 0, api.OK},
		{oneLeg(), many, 0, api.OK},
		{api.CircuitBridge{Legs: 2}, []api.CircuitCommand{c, {Leg: 1}}, 0, api.OK},
		{api.CircuitBridge{}, nil, 0, api.ErrRange},
		{oneLeg(), nil, 0, api.ErrShape},
		{oneLeg(), []api.CircuitCommand{}, 0, api.ErrShape},
		{oneLeg(), append([]api.CircuitCommand{far}, many...), 0, api.ErrLarge},
		{oneLeg(), []api.CircuitCommand{far}, 0, api.ErrMissing},
		{oneLeg(), []api.CircuitCommand{c, {Leg: -1}}, 1, api.ErrMissing},
		{oneLeg(), []api.CircuitCommand{c, c, {Wait: 21}, far}, 2, api.ErrRange},
		{oneLeg(), []api.CircuitCommand{c, {Wait: -1}}, 1, api.ErrRange},
		{api.CircuitBridge{Legs: 2}, []api.CircuitCommand{c, {Leg: 2}}, 1, api.ErrMissing},
	} {
		i, e := circuit.CheckProgram(x.b, x.l)
		want(t, "CheckProgram", i, e, x.index, x.e)
	}
}

// doneByDefinition is the state after a command, number by number.
func doneByDefinition(b api.CircuitBridge, s api.CircuitState, c api.CircuitCommand) api.CircuitState {
	l := append([]int{}, s.Switches...)
	own, other := &l[2*c.Leg], &l[2*c.Leg+1]
	if c.Upper {
		own, other = other, own
	}
	if c.On {
		if !b.Locked || *other == 0 {
			*own = -1
		}
	} else if *own == -1 {
		*own = b.Fall
	}
	return state(l...)
}

// waitedByDefinition is the state after ticks, tick by tick.
func waitedByDefinition(s api.CircuitState, ticks int) api.CircuitState {
	l := append([]int{}, s.Switches...)
	for range ticks {
		for i := range l {
			if l[i] > 0 {
				l[i]--
			}
		}
	}
	return state(l...)
}

// shortByDefinition is the first leg that is shorted, or -1.
func shortByDefinition(s api.CircuitState) int {
	for i := 0; i < len(s.Switches); i += 2 {
		if s.Switches[i] != 0 && s.Switches[i+1] != 0 {
			return i / 2
		}
	}
	return -1
}

// P1.1
func TestSteps(t *testing.T) {
	for _, b := range bridges() {
		for _, s := range states(b) {
			for _, c := range commands(b, 0, 20) {
				after, e := circuit.Done(b, s, c)
				want(t, "Done", after, e, doneByDefinition(b, s, c), api.OK)
			}
			for _, ticks := range []int{0, 1, 2, 3, 4, 20} {
				after, e := circuit.Waited(b, s, ticks)
				want(t, "Waited", after, e, waitedByDefinition(s, ticks), api.OK)
			}
			leg, e := circuit.ShortIn(b, s)
			if short := shortByDefinition(s); short >= 0 {
				want(t, "ShortIn", leg, e, short, api.OK)
			} else {
				want(t, "ShortIn of nothing", leg, e, 0, api.ErrNone)
			}
		}
	}
}

// P1.1, examples and edge cases
func TestStepsOfExamples(t *testing.T) {
	p := program(t, "u 0 + 3;u 0 - 2;l 0 + 3;l 0 - 2")
	locked := api.CircuitBridge{Legs: 1, Fall: 2, Locked: true}
	for _, x := range []struct {
		b             api.CircuitBridge
		before, after api.CircuitState
		command       int
	}{
		{oneLeg(), state(0, 0), state(0, -1), 0},
		{oneLeg(), state(0, -1), state(0, 2), 1},
		{oneLeg(), state(0, -1), state(0, -1), 0},
		{oneLeg(), state(0, 1), state(0, -1), 0},
		{oneLeg(), state(0, 1), state(0, 1), 1},
		{oneLeg(), state(0, -1), state(-1, -1), 2},
		{locked, state(0, -1), state(0, -1), 2},
		{locked, state(0, 1), state(0, 1), 2},
		{locked, state(1, 0), state(-1, 0), 2},
		{api.CircuitBridge{Legs: 1}, state(0, -1), state(0, 0), 1},
	} {
		s, e := circuit.Done(x.b, x.before, p[x.command])
		want(t, "Done", s, e, x.after, api.OK)
	}
	s, e := circuit.Waited(oneLeg(), state(0, 2), 2)
	want(t, "Waited", s, e, state(0, 0), api.OK)
	s, e = circuit.Waited(oneLeg(), state(-1, 2), 1)
	want(t, "Waited with a switch on", s, e, state(-1, 1), api.OK)
	leg, e := circuit.ShortIn(api.CircuitBridge{Legs: 2, Fall: 1}, state(0, 1, 1, -1))
	want(t, "ShortIn of the second leg", leg, e, 1, api.OK)
}

// P1.1, errors of states, commands and ticks in their order
func TestStepErrors(t *testing.T) {
	far := api.CircuitCommand{Leg: 1, Wait: 21}
	none := api.CircuitState{}
	for _, b := range badBridges() {
		s, e := circuit.Done(b, none, far)
		want(t, "Done without a bridge", s, e, none, api.ErrRange)
		s, e = circuit.Waited(b, none, -1)
		want(t, "Waited without a bridge", s, e, none, api.ErrRange)
		leg, e := circuit.ShortIn(b, none)
		want(t, "ShortIn without a bridge", leg, e, 0, api.ErrRange)
	}
	for _, x := range []struct {
		s api.CircuitState
		c api.CircuitCommand
		e api.Errno
	}{
		{none, far, api.ErrShape},
		{state(0, 3), far, api.ErrRange},
		{state(0, 0), far, api.ErrMissing},
		{state(0, 0), api.CircuitCommand{Leg: math.MinInt}, api.ErrMissing},
		{state(0, 0), api.CircuitCommand{Wait: 21}, api.ErrRange},
		{state(0, 0), api.CircuitCommand{Wait: -1}, api.ErrRange},
	} {
		s, e := circuit.Done(oneLeg(), x.s, x.c)
		want(t, "Done", s, e, none, x.e)
	}
	for _, ticks := range []int{-1, 21, math.MaxInt, math.MinInt} {
		s, e := circuit.Waited(oneLeg(), none, ticks)
		want(t, "Waited without a state", s, e, none, api.ErrShape)
		s, e = circuit.Waited(oneLeg(), state(0, -1), ticks)
		want(t, "Waited without ticks", s, e, none, api.ErrRange)
	}
	s, e := circuit.Waited(oneLeg(), state(-2, 0), 1)
	want(t, "Waited of no state", s, e, none, api.ErrRange)
	leg, e := circuit.ShortIn(oneLeg(), state(1))
	want(t, "ShortIn of no state", leg, e, 0, api.ErrShape)
	leg, e = circuit.ShortIn(oneLeg(), state(1, 3))
	want(t, "ShortIn of a number outside", leg, e, 0, api.ErrRange)
}

// P1.8
func TestLockedIsNeverShorted(t *testing.T) {
	for _, b := range bridges() {
		if !b.Locked {
			continue
		}
		for _, s := range states(b) {
			if shortByDefinition(s) >= 0 {
				continue
			}
			for _, c := range commands(b, 0) {
				after, _ := circuit.Done(b, s, c)
				leg, e := circuit.ShortIn(b, after)
				want(t, "ShortIn of a locked bridge", leg, e, 0, api.ErrNone)
			}
		}
	}
}

// R3
func TestStepsShareNoMemory(t *testing.T) {
	s := state(0, -1)
	after, _ := circuit.Done(oneLeg(), s, api.CircuitCommand{})
	waited, _ := circuit.Waited(oneLeg(), s, 0)
	after.Switches[0], waited.Switches[0] = 1, 2
	want(t, "the state before", s, api.OK, state(0, -1), api.OK)
}
