package node

import (
	"gemel/api"
	"gemel/bits"
)

// mostUnit is how many bytes a unit has at most, so that the store takes it.
const mostUnit = 24576 - snapshotHead

// follow is what a node keeps of a primary that it hears.
type follow struct {
	epoch    uint64 // of the last primary
	salt     uint32 // its life
	count    uint64 // its last talk
	finished bool   // the snapshot of that talk was installed
	index    uint64 // of that snapshot
	data     []byte // its parts, as far as they came
	came     bits.Map
}

// hears takes up that a primary said something of an epoch, in a talk; false: it is nothing.
func (n *Node) hears(epoch uint64, t talk) bool {
	own := n.store.Epoch()
	if epoch < own {
		n.tell(t, 0, false)
		return false
	}
	if n.lead != nil {
		if epoch == own {
			return false
		}
		n.stepDown()
	}
	f := &n.follow
	if epoch < f.epoch || epoch == f.epoch && t.count < f.count {
		return false // from an elder talk: what it says may be over
	}
	if t.salt != f.salt || t.count != f.count {
		n.follow = follow{salt: t.salt, count: t.count}
	}
	n.follow.epoch = epoch
	n.quiet = 0
	n.leads = true
	return true
}

// tell says what this node has, and up to where that is what the primary has, if it is sure of that.
func (n *Node) tell(t talk, matched uint64, sure bool) {
	last := n.store.Last()
	epoch, _ := n.epochAt(last)
	t.run, t.known = n.salt, true
	m := state{epoch: n.store.Epoch(), talk: t, blank: n.blank(), last: last, lastEpoch: epoch, sure: sure, matched: matched}
	n.send(Peer, m.seal())
}

// beaten takes a primary's beat.
func (n *Node) beaten(m beat) {
	if !n.hears(m.epoch, m.talk) {
		return
	}
	if n.blank() || !m.talk.known || m.talk.run != n.salt {
		n.tell(m.talk, 0, false)
		return
	}
	if !n.fine(n.store.SetEpoch(m.epoch)) {
		return
	}
	matched, sure := n.take(m)
	if sure {
		n.commitTo(min(m.commit, matched))
	}
	n.tell(m.talk, matched, sure)
}

// take puts a beat's entries behind those that are here, and tells up to where both are the same then; false: they do not fit.
func (n *Node) take(m beat) (uint64, bool) {
	if epoch, ok := n.epochAt(m.prev); m.prev >= n.base && (!ok || epoch != m.prevEpoch) {
		return 0, false
	}
	matched := m.prev
entries:
	for _, e := range m.entries {
		switch {
		case e.Index <= n.base: // committed, so the same
		case e.Index <= n.store.Last():
			if epoch, ok := n.epochAt(e.Index); !ok || epoch != e.Epoch {
				return 0, false
			}
		default:
			err := n.store.Append(e)
			if err == api.ErrFull || err == api.ErrArg {
				break entries
			}
			if !n.fine(err) {
				return 0, false
			}
		}
		matched = e.Index
	}
	return matched, true
}

// handed takes a part of a snapshot.
func (n *Node) handed(m part) {
	if m.talk.run != n.salt || !n.hears(m.epoch, m.talk) {
		return
	}
	f := &n.follow
	if f.finished {
		n.tell(m.talk, f.index, true)
		return
	}
	if m.size < 0 || m.size > mostUnit || m.at < 0 || m.at%partSize != 0 || len(m.data) != min(partSize, m.size-m.at) {
		return
	}
	if len(f.data) != m.size {
		f.data, f.came = make([]byte, m.size), bits.New((m.size+partSize-1)/partSize)
	}
	copy(f.data[m.at:], m.data)
	f.came.Set(m.at/partSize, 1)
	if f.came.Count()*partSize < m.size {
		return
	}
	n.install(m)
}

// install makes the snapshot that came all that is here.
func (n *Node) install(m part) {
	f := &n.follow
	b := wrap(m.lastEpoch, m.epoch, f.data)
	lastEpoch, installed, unit, ok := unwrap(b, n.blocks)
	f.data, f.came = nil, nil
	if !ok || !n.fine(n.store.Install(m.epoch, m.index, b)) {
		return
	}
	n.base, n.commit, n.unit = m.index, m.index, unit
	n.baseEpoch, n.installed = lastEpoch, installed
	f.finished, f.index = true, m.index
	n.tell(m.talk, m.index, true)
}
