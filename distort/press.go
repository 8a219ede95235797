package distort

import (
	"slices"

	"martensite/api"
)

// maxLimit is how far all strokes at one joint may go at most.
const maxLimit = 4 * api.MaxDistortAmount

// pressError is the error of a press.
func pressError(p api.DistortPress) api.Errno {
	_, e := CheckPress(p)
	return e
}

// kinkBy is the kink that an amount changes.
func kinkBy(p api.DistortPress, amount int) int { return p.Gain * max(amount-p.Spring, 0) }

// bentBy is by how much a stroke changes the kink of its joint.
func bentBy(p api.DistortPress, x api.DistortStroke) int {
	if x.Up {
		return -kinkBy(p, x.Amount)
	}
	return kinkBy(p, x.Amount)
}

// amountError is ErrMissing if a press does not have the amount of a stroke.
func amountError(p api.DistortPress, x api.DistortStroke) api.Errno {
	return errorIf(!slices.Contains(p.Amounts, x.Amount), api.ErrMissing)
}

// sums are the sums, joint by joint, of what strokes give.
func (s shaft) sums(plan []api.DistortStroke, given func(api.DistortStroke) int) []int {
	sums := make([]int, len(s.Joints))
	for _, x := range plan {
		sums[x.Joint] += given(x)
	}
	return sums
}

// fullError is ErrFull if the strokes at a joint go further than a press may.
func (s shaft) fullError(p api.DistortPress, plan []api.DistortStroke) api.Errno {
	amounts := s.sums(plan, func(x api.DistortStroke) int { return x.Amount })
	return errorIf(slices.ContainsFunc(amounts, func(n int) bool { return n > p.Limit }), api.ErrFull)
}

// strokesError is the error of strokes.
func (s shaft) strokesError(p api.DistortPress, plan []api.DistortStroke) api.Errno {
	if len(plan) > api.MaxDistortStrokes {
		return api.ErrLarge
	}
	_, e := firstError(plan, func(_ int, x api.DistortStroke) api.Errno {
		return firstOf(
			errorIf(x.Joint < 0 || x.Joint >= len(s.Joints), api.ErrMissing),
			amountError(p, x))
	})
	if e != api.OK {
		return e
	}
	return s.fullError(p, plan)
}

// after is a shaft after strokes, or ErrRange if a kink would be too great.
func (s shaft) after(p api.DistortPress, plan []api.DistortStroke) (shaft, api.Errno) {
	bent := s.sums(plan, func(x api.DistortStroke) int { return bentBy(p, x) })
	x := s.kinked(func(joint int, kink api.Range) api.Range {
		return api.Range{Lo: kink.Lo + bent[joint], Hi: kink.Hi + bent[joint]}
	})
	_, e := firstError(x.Kinks, func(_ int, kink api.Range) api.Errno {
		return sizeError(api.MaxDistortKink, kink.Lo, kink.Hi)
	})
	if e != api.OK {
		return shaft{}, e
	}
	return x, api.OK
}

// CheckPress finds the error of a press, and the index of the amount that has it.
func CheckPress(p api.DistortPress) (int, api.Errno) {
	e := firstOf(
		errorIf(len(p.Amounts) == 0, api.ErrShape),
		errorIf(len(p.Amounts) > api.MaxDistortAmounts, api.ErrLarge))
	if e != api.OK {
		return 0, e
	}
	i, e := firstError(p.Amounts, func(i, amount int) api.Errno {
		return firstOf(
			rangeError(1, api.MaxDistortAmount, amount),
			errorIf(i > 0 && amount <= p.Amounts[i-1], api.ErrOrder))
	})
	if e != api.OK {
		return i, e
	}
	return 0, firstOf(
		rangeError(0, api.MaxDistortAmount, p.Spring),
		rangeError(0, api.MaxDistortGain, p.Gain),
		rangeError(0, maxLimit, p.Limit))
}

// BentBy is by how much a stroke changes the kink of its joint.
func BentBy(p api.DistortPress, x api.DistortStroke) (int, api.Errno) {
	if e := firstOf(pressError(p), amountError(p, x)); e != api.OK {
		return 0, e
	}
	return bentBy(p, x), api.OK
}

// After is a shaft after strokes.
func After(s api.DistortShaft, p api.DistortPress, plan []api.DistortStroke) (api.DistortShaft, api.Errno) {
	if e := firstOf(shaftError(s), pressError(p)); e != api.OK {
		return api.DistortShaft{}, e
	}
	if e := (shaft{s}).strokesError(p, plan); e != api.OK {
		return api.DistortShaft{}, e
	}
	x, e := shaft{s}.after(p, plan)
	return x.DistortShaft, e
}
