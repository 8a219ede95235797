package inspect

import "martensite/api"

// rangesError is the error of ranges.
func rangesError(l []api.Range) api.Errno {
	if e := countError(len(l), 1, api.MaxInspectRanges); e != api.OK {
		return e
	}
	_, e := firstError(l, func(_ int, r api.Range) api.Errno { return endsError(r) })
	return e
}

// common is what ranges have in common; false if they have nothing.
func common(first api.Range, others ...api.Range) (api.Range, bool) {
	for _, r := range others {
		first = api.Range{Lo: max(first.Lo, r.Lo), Hi: min(first.Hi, r.Hi)}
	}
	return first, first.Lo <= first.Hi
}

// AgreedOf is the range of all numbers that ranges have in common.
func AgreedOf(l []api.Range) (api.Range, api.Errno) {
	if e := rangesError(l); e != api.OK {
		return api.Range{}, e
	}
	r, ok := common(l[0], l[1:]...)
	if !ok {
		return api.Range{}, api.ErrClash
	}
	return r, api.OK
}

// Contradicting are the indexes of the first two ranges that contradict each other. (Ranges of which all pairs agree have a number in common, so there is always a pair.)
func Contradicting(l []api.Range) ([]int, api.Errno) {
	if e := rangesError(l); e != api.OK {
		return nil, e
	}
	for i, a := range l {
		for j, b := range l[i+1:] {
			if _, ok := common(a, b); !ok {
				return []int{i, i + 1 + j}, api.OK
			}
		}
	}
	return nil, api.ErrNone
}
