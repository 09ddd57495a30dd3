package node

import (
	"gemel/api"
	"gemel/disk"
	"gemel/witness"
)

// Judge1 is the witness as a machine.
type Judge1 struct {
	w      *witness.Witness
	out    []Packet
	broken bool
}

// OpenJudge tells the witness on a disk.
func OpenJudge(d *disk.Disk) (*Judge1, api.Errno) {
	w, err := witness.Open(d)
	if err != api.OK {
		return nil, err
	}
	return &Judge1{w: w}, api.OK
}

// In takes a packet of a node.
func (j *Judge1) In(from int, b []byte) {
	kind, r, ok := open(b)
	if j.broken || !ok || from != 0 && from != 1 {
		return
	}
	switch kind {
	case kindSwap:
		expect, reg := r.long(), r.register()
		if !r.whole() {
			return
		}
		if _, _, err := j.w.Cas(expect, reg); err != api.OK {
			j.broken = true
			j.out = nil
			return
		}
	case kindAsk:
		if !r.whole() {
			return
		}
	default:
		return
	}
	j.out = append(j.out, Packet{from, told(j.w.Get())})
}

// Out tells what it sends since the last Out.
func (j *Judge1) Out() []Packet {
	l := j.out
	j.out = nil
	return l
}

// Broken tells whether its disk failed.
func (j *Judge1) Broken() bool { return j.broken }
