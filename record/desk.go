package record

import (
	"slices"

	"martensite/api"
)

// Desk is a net, and a log.
type Desk struct {
	net api.RecordNet
	log []api.RecordEntry
}

// New is a desk with a net and the empty log.
func New(n api.RecordNet) (*Desk, api.Errno) {
	if _, e := CheckNet(n); e != api.OK {
		return nil, e
	}
	n.People = slices.Clone(n.People)
	return &Desk{net: n}, api.OK
}

// Enter appends an entry to the log.
func (d *Desk) Enter(at int, by, text string) api.Errno {
	if d == nil {
		return api.ErrNil
	}
	l, e := Appended(d.net, d.log, api.RecordEntry{At: at, By: by, Text: text})
	if e == api.OK {
		d.log = l
	}
	return e
}

// Undo removes the last entry of the log.
func (d *Desk) Undo() api.Errno {
	if d == nil {
		return api.ErrNil
	}
	if len(d.log) == 0 {
		return api.ErrNone
	}
	d.log = d.log[:len(d.log)-1]
	return api.OK
}

// Log is the log.
func (d *Desk) Log() []api.RecordEntry {
	if d == nil {
		return nil
	}
	return slices.Clone(d.log)
}

// Answer is the answer to a question about the log.
func (d *Desk) Answer(question string) (string, api.Errno) {
	if d == nil {
		return "", api.ErrNil
	}
	return Answer(d.net, d.log, question)
}

// Journal is the journal of the log in a format.
func (d *Desk) Journal(format int) string {
	if d == nil {
		return ""
	}
	s, _ := Journal(d.net, d.log, format)
	return s
}
