package circuit

import (
	"slices"

	"martensite/api"
)

// switches are the numbers of the switches of a state; those of legs that a bridge does not have are 0.
type switches [2 * api.MaxCircuitLegs]int

// bridge is a bridge that was checked.
type bridge struct{ api.CircuitBridge }

// switchesOf are the switches of a state.
func switchesOf(s api.CircuitState) switches {
	var at switches
	copy(at[:], s.Switches)
	return at
}

// state is the state with these switches.
func (b bridge) state(at switches) api.CircuitState {
	return api.CircuitState{Switches: slices.Clone(at[:2*b.Legs])}
}

// done is the state after a command.
func (b bridge) done(at switches, c api.CircuitCommand) switches {
	lower, upper := 2*c.Leg, 2*c.Leg+1
	own, other := lower, upper
	if c.Upper {
		own, other = upper, lower
	}
	switch {
	case c.On && !(b.Locked && at[other] != 0):
		at[own] = api.CircuitOn
	case !c.On && at[own] == api.CircuitOn:
		at[own] = b.Fall
	}
	return at
}

// waited is the state after so many ticks.
func waited(at switches, ticks int) switches {
	for i, n := range at {
		if n > 0 {
			at[i] = max(0, n-ticks)
		}
	}
	return at
}

// shortIn is the first leg that is shorted, and whether one is.
func shortIn(at switches) (int, bool) {
	for leg := range api.MaxCircuitLegs {
		if at[2*leg] != 0 && at[2*leg+1] != 0 {
			return leg, true
		}
	}
	return 0, false
}

// commandError is the error of a command of a bridge.
func commandError(b api.CircuitBridge, c api.CircuitCommand) api.Errno {
	return firstOf(
		errorIf(c.Leg < 0 || c.Leg >= b.Legs, api.ErrMissing),
		rangeError(0, api.MaxCircuitWait, c.Wait))
}

// stateError is the error of a state of a bridge, without that of the bridge, and the index of the number.
func stateError(b api.CircuitBridge, s api.CircuitState) (int, api.Errno) {
	if len(s.Switches) != 2*b.Legs {
		return 0, api.ErrShape
	}
	return firstError(s.Switches, func(n int) api.Errno {
		return rangeError(api.CircuitOn, b.Fall, n)
	})
}

// CheckBridge finds the error of a bridge.
func CheckBridge(b api.CircuitBridge) api.Errno {
	return firstOf(
		rangeError(1, api.MaxCircuitLegs, b.Legs),
		rangeError(0, api.MaxCircuitFall, b.Fall))
}

// CheckState finds the error of a state of a bridge, and the index of the number that has it.
func CheckState(b api.CircuitBridge, s api.CircuitState) (int, api.Errno) {
	if e := CheckBridge(b); e != api.OK {
		return 0, e
	}
	return stateError(b, s)
}

// CheckProgram finds the error of a program of a bridge, and the index of the command that has it.
func CheckProgram(b api.CircuitBridge, l []api.CircuitCommand) (int, api.Errno) {
	e := firstOf(
		CheckBridge(b),
		errorIf(len(l) == 0, api.ErrShape),
		errorIf(len(l) > api.MaxCircuitCommands, api.ErrLarge))
	if e != api.OK {
		return 0, e
	}
	return firstError(l, func(c api.CircuitCommand) api.Errno { return commandError(b, c) })
}

// Done is the state after a command.
func Done(b api.CircuitBridge, s api.CircuitState, c api.CircuitCommand) (api.CircuitState, api.Errno) {
	_, wrong := CheckState(b, s)
	if e := firstOf(wrong, commandError(b, c)); e != api.OK {
		return api.CircuitState{}, e
	}
	x := bridge{b}
	return x.state(x.done(switchesOf(s), c)), api.OK
}

// Waited is the state after so many ticks without a command.
func Waited(b api.CircuitBridge, s api.CircuitState, ticks int) (api.CircuitState, api.Errno) {
	_, wrong := CheckState(b, s)
	if e := firstOf(wrong, rangeError(0, api.MaxCircuitWait, ticks)); e != api.OK {
		return api.CircuitState{}, e
	}
	return bridge{b}.state(waited(switchesOf(s), ticks)), api.OK
}

// ShortIn is the first leg that is shorted.
func ShortIn(b api.CircuitBridge, s api.CircuitState) (int, api.Errno) {
	if _, e := CheckState(b, s); e != api.OK {
		return 0, e
	}
	leg, short := shortIn(switchesOf(s))
	return leg, errorIf(!short, api.ErrNone)
}
