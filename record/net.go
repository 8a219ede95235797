// Package record is chapter 10: parts, coils, envelopes and the log of the shop. See shared/doc/10-record.md.
package record

import (
	"slices"

	"martensite/api"
	"martensite/monitor"
)

// shop is a checked net, and the plan of its signatures.
type shop struct {
	api.RecordNet
	plan api.MonitorPlan
}

// person is the person with a name; false if there is none.
func (s shop) person(name string) (api.RecordPerson, bool) {
	i := slices.IndexFunc(s.People, func(p api.RecordPerson) bool { return p.Name == name })
	if i < 0 {
		return api.RecordPerson{}, false
	}
	return s.People[i], true
}

// recordOf is the record of the frames of a part.
func (s shop) recordOf(p part) (api.MonitorRecord, api.Errno) {
	return monitor.RecordOf(s.plan, p.Frames)
}

// isWhole is whether the record of a part is whole.
func (s shop) isWhole(p part) bool {
	r, _ := s.recordOf(p)
	lost, e := monitor.LostIn(s.plan, r)
	return e == api.OK && len(lost) == 0
}

// isOutside is whether a case depth may lie outside of the range that the net has for it.
func (s shop) isOutside(depth api.Span) bool {
	return depth.Lo.Num < s.Case.Lo*depth.Lo.Den || depth.Hi.Num > s.Case.Hi*depth.Hi.Den
}

// personError is the error of a person of a net.
func personError(l []api.RecordPerson, i int) api.Errno {
	isNamesake := func(p api.RecordPerson) bool { return p.Name == l[i].Name }
	return firstOf(
		nameError(l[i].Name),
		errorIf(slices.ContainsFunc(l[:i], isNamesake), api.ErrExists),
		errorIf(l[i].Role < 0 || l[i].Role >= api.RecordRoles, api.ErrKind))
}

// peopleError finds the error of the people of a net, and the index of the person that has it.
func peopleError(l []api.RecordPerson) (int, api.Errno) {
	e := firstOf(
		errorIf(len(l) == 0, api.ErrShape),
		errorIf(len(l) > api.MaxRecordPeople, api.ErrLarge))
	if e != api.OK {
		return 0, e
	}
	for i := range l {
		if e := personError(l, i); e != api.OK {
			return i, e
		}
	}
	return 0, api.OK
}

// shopOf is the shop of a net; otherwise the index of the person that has an error, and the error.
func shopOf(n api.RecordNet) (shop, int, api.Errno) {
	if i, e := peopleError(n.People); e != api.OK {
		return shop{}, i, e
	}
	plan, e := monitor.ParsePlan(n.Plan)
	e = firstOf(
		e,
		rangeError(0, api.MaxInspectHardness, n.Limit),
		rangeError(0, api.MaxInspectDepth, n.Case.Lo, n.Case.Hi),
		errorIf(n.Case.Lo > n.Case.Hi, api.ErrOrder))
	if e != api.OK {
		return shop{}, 0, e
	}
	return shop{n, plan}, 0, api.OK
}

// CheckNet finds the error of a net, and the index of the person that has it.
func CheckNet(n api.RecordNet) (int, api.Errno) {
	_, i, e := shopOf(n)
	return i, e
}
