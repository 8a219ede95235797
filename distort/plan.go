package distort

import (
	"slices"

	"martensite/api"
)

// search is a shaft that is made straight within a tolerance, its press, and all strokes of the press at its joints, in their order.
type search struct {
	shaft
	press     api.DistortPress
	tolerance int
	strokes   []api.DistortStroke
}

// strokesOf are all strokes of a press at the joints of a shaft, in their order.
func strokesOf(s api.DistortShaft, p api.DistortPress) []api.DistortStroke {
	var l []api.DistortStroke
	for joint := range s.Joints {
		for _, amount := range p.Amounts {
			down := api.DistortStroke{Joint: joint, Amount: amount}
			up := down
			up.Up = true
			l = append(l, down, up)
		}
	}
	return l
}

// proofError is ErrRange if strokes bend a kink too far, and ErrProof if the shaft is not straight after them.
func (s shaft) proofError(p api.DistortPress, plan []api.DistortStroke, tolerance int) api.Errno {
	x, e := s.after(p, plan)
	if e != api.OK {
		return e
	}
	return errorIf(x.straight(tolerance) != api.AnswerYes, api.ErrProof)
}

// first is the first permitted plan that makes the shaft straight and goes on from some strokes with so many others, none of which stands before an index in the order.
func (x search) first(begun []api.DistortStroke, from, others int) ([]api.DistortStroke, bool) {
	if x.fullError(x.press, begun) != api.OK {
		return nil, false
	}
	if others == 0 {
		return begun, x.proofError(x.press, begun, x.tolerance) == api.OK
	}
	for i := from; i < len(x.strokes); i++ {
		longer := slices.Concat(begun, x.strokes[i:i+1])
		if plan, found := x.first(longer, i, others-1); found {
			return plan, true
		}
	}
	return nil, false
}

// excess is by how much a range leaves that from minus the tolerance to the tolerance.
func excess(r api.Range, tolerance int) int {
	return max(r.Hi-tolerance, -tolerance-r.Lo, 0)
}

// reach is by how much, times Length, a stroke can move a joint at most.
func (s shaft) reach(p api.DistortPress, joint int) int {
	kink := kinkBy(p, slices.Max(p.Amounts))
	most := 0
	for other := range s.Joints {
		most = max(most, kink*s.influence(other, s.Joints[joint]))
	}
	return most
}

// boundFrom is the bound from a joint, or ErrNone if no stroke moves a joint that must move.
func (s shaft) boundFrom(p api.DistortPress, tolerance, joint int) (int, api.Errno) {
	off := excess(s.deflection(s.Joints[joint]), tolerance)
	if off <= 2 {
		return 0, api.OK
	}
	reach := s.reach(p, joint)
	if reach == 0 {
		return 0, api.ErrNone
	}
	return ceiling((off-2)*s.Length, reach), api.OK
}

// CheckPlan is the number of strokes of a permitted plan after which a shaft is straight.
func CheckPlan(s api.DistortShaft, p api.DistortPress, x api.DistortPlan) (int, api.Errno) {
	if e := firstOf(shaftError(s), pressError(p)); e != api.OK {
		return 0, e
	}
	if e := firstOf((shaft{s}).strokesError(p, x.Strokes), toleranceError(x.Tolerance)); e != api.OK {
		return 0, e
	}
	if e := (shaft{s}).proofError(p, x.Strokes, x.Tolerance); e != api.OK {
		return 0, e
	}
	return len(x.Strokes), api.OK
}

// FewestOf are the fewest strokes that make a shaft straight.
func FewestOf(s api.DistortShaft, p api.DistortPress, tolerance int) ([]api.DistortStroke, api.Errno) {
	if e := firstOf(shaftError(s), pressError(p), toleranceError(tolerance)); e != api.OK {
		return nil, e
	}
	x := search{shaft{s}, p, tolerance, strokesOf(s, p)}
	for count := range api.MaxDistortStrokes + 1 {
		if plan, found := x.first(nil, 0, count); found {
			return plan, api.OK
		}
	}
	return nil, api.ErrNone
}

// BoundOf is the maximum bound from a joint, and the first joint with it.
func BoundOf(s api.DistortShaft, p api.DistortPress, tolerance int) (int, int, api.Errno) {
	if e := firstOf(shaftError(s), pressError(p), toleranceError(tolerance)); e != api.OK {
		return 0, 0, e
	}
	most, first := 0, 0
	for joint := range s.Joints {
		n, e := shaft{s}.boundFrom(p, tolerance, joint)
		if e != api.OK {
			return 0, 0, e
		}
		if n > most {
			most, first = n, joint
		}
	}
	return most, first, api.OK
}
