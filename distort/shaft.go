// Package distort is chapter 6: distortion and straightening. See shared/doc/06-distort.md.
package distort

import (
	"slices"

	"martensite/api"
)

// shaft is a shaft; each of its joints has a kink.
type shaft struct{ api.DistortShaft }

// jointError is the error of a joint and of its kink.
func (s shaft) jointError(joint, at int) api.Errno {
	return firstOf(
		rangeError(1, s.Length-1, at),
		errorIf(joint > 0 && at <= s.Joints[joint-1], api.ErrOrder),
		endsError(-api.MaxDistortKink, api.MaxDistortKink, s.Kinks[joint]))
}

// shaftError is the error of a shaft.
func shaftError(s api.DistortShaft) api.Errno {
	_, e := CheckShaft(s)
	return e
}

// influence is that of a joint on a position.
func (s shaft) influence(joint, position int) int {
	at := s.Joints[joint]
	return min(at, position) * (s.Length - max(at, position))
}

// deflection is the deflection range at a position.
func (s shaft) deflection(position int) api.Range {
	var sum api.Range
	for joint, kink := range s.Kinks {
		n := s.influence(joint, position)
		sum.Lo += kink.Lo * n
		sum.Hi += kink.Hi * n
	}
	return api.Range{Lo: floor(sum.Lo, s.Length), Hi: ceiling(sum.Hi, s.Length)}
}

// straight is the answer to whether a shaft is straight within a tolerance.
func (s shaft) straight(tolerance int) int {
	answer := api.AnswerYes
	for _, at := range s.Joints {
		r := s.deflection(at)
		if r.Lo > tolerance || r.Hi < -tolerance {
			return api.AnswerNo
		}
		if r.Lo < -tolerance || r.Hi > tolerance {
			answer = api.AnswerMaybe
		}
	}
	return answer
}

// kinked is a shaft with other kinks, each found from the one that it has.
func (s shaft) kinked(kinkOf func(int, api.Range) api.Range) shaft {
	other := api.DistortShaft{Length: s.Length, Joints: slices.Clone(s.Joints)}
	for joint, kink := range s.Kinks {
		other.Kinks = append(other.Kinks, kinkOf(joint, kink))
	}
	return shaft{other}
}

// relieved is a kink after tempering.
func relieved(kink, parts api.Range) api.Range {
	left := api.Range{Lo: api.MaxDistortParts - parts.Hi, Hi: api.MaxDistortParts - parts.Lo}
	products := [4]int{kink.Lo * left.Lo, kink.Lo * left.Hi, kink.Hi * left.Lo, kink.Hi * left.Hi}
	return api.Range{
		Lo: floor(slices.Min(products[:]), api.MaxDistortParts),
		Hi: ceiling(slices.Max(products[:]), api.MaxDistortParts),
	}
}

// CheckShaft finds the error of a shaft, and the index of the joint that has it.
func CheckShaft(s api.DistortShaft) (int, api.Errno) {
	e := firstOf(
		rangeError(1, api.MaxDistortLength, s.Length),
		errorIf(len(s.Joints) > api.MaxDistortJoints, api.ErrLarge),
		errorIf(len(s.Kinks) != len(s.Joints), api.ErrShape))
	if e != api.OK {
		return 0, e
	}
	return firstError(s.Joints, shaft{s}.jointError)
}

// DeflectionAt is the deflection range at a position.
func DeflectionAt(s api.DistortShaft, position int) (api.Range, api.Errno) {
	if e := firstOf(shaftError(s), rangeError(0, s.Length, position)); e != api.OK {
		return api.Range{}, e
	}
	return shaft{s}.deflection(position), api.OK
}

// DeflectionsOf are the deflection ranges at all joints.
func DeflectionsOf(s api.DistortShaft) ([]api.Range, api.Errno) {
	if e := shaftError(s); e != api.OK {
		return nil, e
	}
	var l []api.Range
	for _, at := range s.Joints {
		l = append(l, shaft{s}.deflection(at))
	}
	return l, api.OK
}

// IsStraight is the answer to whether a shaft is straight within a tolerance.
func IsStraight(s api.DistortShaft, tolerance int) (int, api.Errno) {
	if e := firstOf(shaftError(s), toleranceError(tolerance)); e != api.OK {
		return 0, e
	}
	return shaft{s}.straight(tolerance), api.OK
}

// Relieved is a shaft after tempering.
func Relieved(s api.DistortShaft, parts api.Range) (api.DistortShaft, api.Errno) {
	if e := firstOf(shaftError(s), endsError(0, api.MaxDistortParts, parts)); e != api.OK {
		return api.DistortShaft{}, e
	}
	x := shaft{s}.kinked(func(_ int, kink api.Range) api.Range { return relieved(kink, parts) })
	return x.DistortShaft, api.OK
}
