package node

import (
	"gemel/api"
	"gemel/bin"
	"gemel/crc"
	"gemel/store"
	"gemel/witness"
)

// mark stands ahead of all that the machines tell each other.
const mark = 0x474D

// What a packet is.
const (
	kindRequest = iota + 1 // of an initiator
	kindAnswer             // to one
	kindAsk                // to the witness: how is the register
	kindSwap               // to the witness: a register instead of another one
	kindTold               // of the witness: the register
	kindBeat               // of a primary: that it is one, and entries
	kindPart               // of a primary: a part of a snapshot
	kindState              // of a backup: what it has
)

// writer lays numbers and rows of bytes, one behind the other.
type writer struct{ b []byte }

func begin(kind int) *writer {
	w := &writer{}
	w.number(mark, 2)
	w.number(uint64(kind), 1)
	return w
}

func (w *writer) number(v uint64, n int) { w.b = append(w.b, bin.Put(nil, v, n)...) }

func (w *writer) long(l ...uint64) {
	for _, v := range l {
		w.number(v, 8)
	}
}

func (w *writer) flag(x bool) {
	if x {
		w.number(1, 1)
	} else {
		w.number(0, 1)
	}
}

func (w *writer) row(b []byte) {
	w.number(uint64(len(b)), 4)
	w.b = append(w.b, b...)
}

func (w *writer) seal() []byte { return crc.Seal(w.b) }

// reader reads what a writer laid.
type reader struct {
	b   []byte
	at  int
	bad bool // there was less, or something else
}

// open tells what a packet is, and what reads the rest of it.
func open(b []byte) (int, *reader, bool) {
	b, err := crc.Open(b)
	if err != api.OK {
		return 0, nil, false
	}
	r := &reader{b: b}
	if r.number(2) != mark {
		return 0, nil, false
	}
	kind := int(r.number(1))
	return kind, r, !r.bad
}

func (r *reader) number(n int) uint64 {
	v, ok := bin.Get(r.b, r.at, n)
	if !ok {
		r.bad = true
		return 0
	}
	r.at += n
	return v
}

func (r *reader) long() uint64 { return r.number(8) }

func (r *reader) flag() bool {
	v := r.number(1)
	r.bad = r.bad || v > 1
	return v == 1
}

func (r *reader) row() []byte {
	n := int(r.number(4))
	if r.bad || n > len(r.b)-r.at {
		r.bad = true
		return nil
	}
	r.at += n
	return append([]byte(nil), r.b[r.at-n:r.at]...)
}

// whole tells whether all was read, and was as it should be.
func (r *reader) whole() bool { return !r.bad && r.at == len(r.b) }

// order is a command as its host asked for it.
type order struct {
	host      int
	id, floor uint64
	c         api.Command
}

func (w *writer) order(o order) {
	w.long(uint64(o.host), o.id, o.floor)
	w.long(uint64(o.c.Kind), uint64(o.c.At), uint64(o.c.N), uint64(o.c.Type), o.c.Key, o.c.New)
	w.flag(o.c.Force)
	w.row(o.c.Data)
}

func (r *reader) order() order {
	o := order{host: int(r.long()), id: r.long(), floor: r.long()}
	o.c.Kind, o.c.At, o.c.N, o.c.Type = int(r.long()), int(r.long()), int(r.long()), int(r.long())
	o.c.Key, o.c.New = r.long(), r.long()
	o.c.Force = r.flag()
	o.c.Data = r.row()
	return o
}

// encode tells an order as an entry's data.
func (o order) encode() []byte {
	w := &writer{}
	w.order(o)
	return w.b
}

func decodeOrder(b []byte) (order, bool) {
	r := &reader{b: b}
	o := r.order()
	return o, r.whole()
}

// Request tells the packet by which a host asks for a command.
func Request(host int, id, floor uint64, c api.Command) []byte {
	w := begin(kindRequest)
	w.order(order{host, id, floor, c})
	return w.seal()
}

func answer(host int, id uint64, r api.Reply, done bool, hint int) []byte {
	w := begin(kindAnswer)
	w.long(uint64(host), id)
	w.flag(done)
	w.long(uint64(hint), uint64(r.Status), uint64(r.Key), uint64(r.Code), uint64(r.Info))
	w.row(r.Data)
	return w.seal()
}

// Answer reads what a host is told.
func Answer(b []byte) (host int, id uint64, r api.Reply, done bool, hint int, ok bool) {
	kind, x, ok := open(b)
	if !ok || kind != kindAnswer {
		return 0, 0, api.Reply{}, false, 0, false
	}
	host, id, done, hint = int(x.long()), x.long(), x.flag(), int(x.long())
	r.Status, r.Key, r.Code, r.Info = int(x.long()), int(x.long()), int(x.long()), int(x.long())
	r.Data = x.row()
	if !x.whole() || hint < -1 || hint > 1 {
		return 0, 0, api.Reply{}, false, 0, false
	}
	return host, id, r, done, hint, true
}

func ask() []byte { return begin(kindAsk).seal() }

func swap(expect uint64, r witness.Reg) []byte {
	w := begin(kindSwap)
	w.long(expect)
	w.row(witness.Encode(r))
	return w.seal()
}

func told(r witness.Reg) []byte {
	w := begin(kindTold)
	w.row(witness.Encode(r))
	return w.seal()
}

// register reads a register; one that may not be is bad.
func (r *reader) register() witness.Reg {
	reg, err := witness.Decode(r.row())
	r.bad = r.bad || err != api.OK
	return reg
}

// talk says in which talk of a primary with a backup a packet belongs: a primary's life has its salt and counts its talks; a backup's life has its run.
type talk struct {
	salt  uint32
	count uint64
	run   uint32
	known bool // of a primary: it knows the run
}

func (w *writer) talk(t talk) {
	w.number(uint64(t.salt), 4)
	w.long(t.count)
	w.number(uint64(t.run), 4)
	w.flag(t.known)
}

func (r *reader) talk() talk {
	return talk{uint32(r.number(4)), r.long(), uint32(r.number(4)), r.flag()}
}

// beat is what a primary says: entries behind the one at prev, and what is committed.
type beat struct {
	epoch           uint64
	talk            talk
	prev, prevEpoch uint64
	commit          uint64
	entries         []store.Entry
}

func (m beat) seal() []byte {
	w := begin(kindBeat)
	w.long(m.epoch)
	w.talk(m.talk)
	w.long(m.prev, m.prevEpoch, m.commit, uint64(len(m.entries)))
	for _, e := range m.entries {
		w.long(e.Epoch)
		w.row(e.Data)
	}
	return w.seal()
}

func (r *reader) beat() beat {
	m := beat{epoch: r.long(), talk: r.talk(), prev: r.long(), prevEpoch: r.long(), commit: r.long()}
	n := r.long()
entries:
	for i := uint64(0); i < n; i++ {
		e := store.Entry{Index: m.prev + 1 + i, Epoch: r.long(), Data: r.row()}
		if r.bad {
			break entries
		}
		m.entries = append(m.entries, e)
	}
	return m
}

// part is a piece of the snapshot at an index.
type part struct {
	epoch            uint64
	talk             talk
	index, lastEpoch uint64
	size, at         int
	data             []byte
}

func (m part) seal() []byte {
	w := begin(kindPart)
	w.long(m.epoch)
	w.talk(m.talk)
	w.long(m.index, m.lastEpoch, uint64(m.size), uint64(m.at))
	w.row(m.data)
	return w.seal()
}

func (r *reader) part() part {
	return part{
		epoch: r.long(), talk: r.talk(), index: r.long(), lastEpoch: r.long(),
		size: int(r.long()), at: int(r.long()), data: r.row(),
	}
}

// state is what a backup says: what it has, and up to where that is what the primary has, if it is sure of that.
type state struct {
	epoch           uint64
	talk            talk
	blank           bool
	last, lastEpoch uint64
	sure            bool
	matched         uint64
}

func (m state) seal() []byte {
	w := begin(kindState)
	w.long(m.epoch)
	w.talk(m.talk)
	w.flag(m.blank)
	w.long(m.last, m.lastEpoch)
	w.flag(m.sure)
	w.long(m.matched)
	return w.seal()
}

func (r *reader) state() state {
	return state{epoch: r.long(), talk: r.talk(), blank: r.flag(), last: r.long(), lastEpoch: r.long(), sure: r.flag(), matched: r.long()}
}
