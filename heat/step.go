package heat

import (
	"slices"

	"martensite/api"
)

// course is the states after steps, and what was lost in them together; it ends before a step that leaves the table, and then it is broken.
type course struct {
	states [][]int
	lost   int
	broken bool
}

// driveError is the error of a drive.
func driveError(s api.HeatSetup, d api.HeatDrive) api.Errno {
	return firstOf(
		errorIf(len(d.Powers) != s.Cells, api.ErrShape),
		rangeError(0, api.MaxHeatPower, d.Powers...),
		lawError(s, d.Law))
}

// drivesError is the error of drives.
func drivesError(s api.HeatSetup, l []api.HeatDrive) api.Errno {
	if f := ticksError(len(l)); f != api.OK {
		return f
	}
	for _, d := range l {
		if f := driveError(s, d); f != api.OK {
			return f
		}
	}
	return api.OK
}

// given is what a cell with one energy gives to the next one with another. The numerator is below 2^61: temperatures are at most 3000, and their denominators 10^6.
func (p part) given(first, second int) int {
	a, b := p.kelvin(first), p.kelvin(second)
	return ratio{p.Exchange * (a.num*b.den - b.num*a.den), 1000 * a.den * b.den}.floor()
}

// exchange lets the cells of a state exchange energy. They stay in the table, as temperatures do not rise faster than energies, and Exchange is at most a half.
func (p part) exchange(e []int) {
	for begin := range 2 {
		for i := begin; i+1 < len(e); i += 2 {
			n := p.given(e[i], e[i+1])
			e[i] -= n
			e[i+1] += n
		}
	}
}

// step is the state after a step, and what was lost in it.
func (p part) step(e []int, d api.HeatDrive) ([]int, int) {
	after := slices.Clone(e)
	p.exchange(after)
	lost := p.loss(d.Law, after[0])
	after[0] -= lost
	for i, power := range d.Powers {
		after[i] += power
	}
	return after, lost
}

// courseOf is the course of steps from a state.
func (p part) courseOf(e []int, l []api.HeatDrive) course {
	var c course
	for _, d := range l {
		after, lost := p.step(e, d)
		if slices.ContainsFunc(after, p.leaves) {
			c.broken = true
			break
		}
		c.states = append(c.states, after)
		c.lost += lost
		e = after
	}
	return c
}

// sumOf is the sum of numbers.
func sumOf(numbers []int) int {
	sum := 0
	for _, n := range numbers {
		sum += n
	}
	return sum
}

// peaksOf are the maximum energies of a state and of further ones.
func peaksOf(e []int, states [][]int) []int {
	peaks := slices.Clone(e)
	for _, state := range states {
		for i, energy := range state {
			peaks[i] = max(peaks[i], energy)
		}
	}
	return peaks
}

// courseFrom is the course of steps from a state, or the error of one of them.
func courseFrom(s api.HeatSetup, e []int, l []api.HeatDrive) (course, api.Errno) {
	_, wrong := CheckState(s, e)
	if f := firstOf(wrong, drivesError(s, l)); f != api.OK {
		return course{}, f
	}
	c := partOf(s).courseOf(e, l)
	if c.broken {
		return course{}, api.ErrBreak
	}
	return c, api.OK
}

// Stepped is the state after a step.
func Stepped(s api.HeatSetup, e []int, d api.HeatDrive) ([]int, api.Errno) {
	c, f := courseFrom(s, e, []api.HeatDrive{d})
	if f != api.OK {
		return nil, f
	}
	return c.states[0], api.OK
}

// RunOf are the states after all steps.
func RunOf(s api.HeatSetup, e []int, l []api.HeatDrive) ([][]int, api.Errno) {
	c, f := courseFrom(s, e, l)
	return c.states, f
}

// BalanceOf is the balance of a run.
func BalanceOf(s api.HeatSetup, e []int, l []api.HeatDrive) (api.HeatBalance, api.Errno) {
	c, f := courseFrom(s, e, l)
	if f != api.OK {
		return api.HeatBalance{}, f
	}
	b := api.HeatBalance{Before: sumOf(e), Lost: c.lost, After: sumOf(e)}
	for i, d := range l {
		b.In += sumOf(d.Powers)
		b.After = sumOf(c.states[i])
	}
	return b, api.OK
}

// PeaksOf are the peaks of a run.
func PeaksOf(s api.HeatSetup, e []int, l []api.HeatDrive) ([]int, api.Errno) {
	c, f := courseFrom(s, e, l)
	if f != api.OK {
		return nil, f
	}
	return peaksOf(e, c.states), api.OK
}
