package record

import "martensite/api"

// common is how many entries two logs have in common at their beginning.
func common(a, b []api.RecordEntry) int {
	n := 0
	for n < len(a) && n < len(b) && a[n] == b[n] {
		n++
	}
	return n
}

// Merged is the log that begins with a, followed by all entries of b after the common beginning that are not refused, and the indexes of those that are.
func Merged(n api.RecordNet, a, b []api.RecordEntry) ([]api.RecordEntry, []int, api.Errno) {
	h, e := houseOf(n, a)
	if e != api.OK {
		return nil, nil, e
	}
	if _, e := houseOf(n, b); e != api.OK {
		return nil, nil, e
	}
	var refused []int
	for i := common(a, b); i < len(b); i++ {
		if h.enter(b[i]) != api.OK {
			refused = append(refused, i)
		}
	}
	return h.log, refused, api.OK
}
