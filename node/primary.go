package node

import (
	"gemel/lu"
	"gemel/witness"
)

// How far a talk with the backup came.
const (
	unknown = iota // it was not heard yet
	misfit         // what it has is not a front of what is here
	handing        // it is handed a snapshot
	fits           // what it has is a front of what is here
)

const (
	partSize  = 4096
	mostBytes = 6000 // of entries in a packet
)

// lead is what a primary keeps.
type lead struct {
	members int
	joining bool     // the other one may be a member at any time
	want    int      // the members that it asks the witness for; 0: it does not
	front   *lu.Unit // the unit behind all entries, committed or not
	stage   int
	run     uint32 // the backup's
	acked   uint64 // up to where it has all
	sent    uint64 // up to where it was sent all
	silent  int    // ticks since it was heard
	beats   int    // since something of what was sent was acknowledged
	parts   []part
}

// tied tells whether nothing is committed without the other one.
func (l *lead) tied() bool { return l.members == both || l.joining }

// rise makes the node primary, as the register says.
func (n *Node) rise() {
	if !n.fine(n.store.SetEpoch(n.reg.Epoch)) {
		return
	}
	n.asked = witness.Reg{}
	n.commitTo(n.store.Last())
	n.lead = &lead{members: n.reg.Members, front: n.unit.Twin()}
	n.leads = false
	n.begin()
}

// stepDown makes the node primary no more.
func (n *Node) stepDown() {
	n.lead = nil
	n.leads = false
	n.quiet = 0
}

// move takes up what the witness did at this primary's own wish.
func (n *Node) move() {
	if !n.fine(n.store.SetEpoch(n.reg.Epoch)) {
		return
	}
	l := n.lead
	l.members, l.joining, l.want = n.reg.Members, false, 0
	n.advance()
	n.beat()
	n.steer()
}

// begin begins a talk with the backup.
func (n *Node) begin() {
	l := n.lead
	n.talks++
	l.stage, l.acked, l.sent, l.beats, l.parts = unknown, 0, 0, 0, nil
	n.beat()
}

func (n *Node) talk() talk {
	return talk{n.salt, n.talks, n.lead.run, n.lead.stage != unknown}
}

// leadTick lets time go for a primary.
func (n *Node) leadTick() {
	l := n.lead
	l.silent++
	if n.ticks%everyBeat == 0 {
		l.beats++
		if l.beats > beatsAgain {
			l.beats = 0
			l.sent = l.acked
			n.sendParts()
		}
		n.beat()
	}
	n.steer()
	if n.ticks%everyAsk == 0 && l.want != 0 {
		n.swap()
	} else if n.ticks%everyLook == 0 {
		n.send(Judge, ask())
	}
}

// swap asks the witness for the members that are wanted.
func (n *Node) swap() {
	epoch := n.store.Epoch()
	n.send(Judge, swap(epoch, witness.Reg{Epoch: epoch + 1, Primary: n.self, Members: n.lead.want}))
}

// beat says that this one is primary, with the entries that were not sent.
func (n *Node) beat() {
	l := n.lead
	if l.stage == fits && l.sent < n.base {
		n.begin()
		return
	}
	m := beat{epoch: n.store.Epoch(), talk: n.talk(), commit: n.commit}
	if l.stage == fits {
		m.prev = l.sent
		m.prevEpoch, _ = n.epochAt(m.prev)
		size := 0
	entries:
		for {
			e, ok := n.store.Entry(l.sent + 1)
			if !ok || size > 0 && size+len(e.Data) > mostBytes {
				break entries
			}
			size += len(e.Data)
			m.entries = append(m.entries, e)
			l.sent++
		}
	} else {
		m.talk.known = false
	}
	n.send(Peer, m.seal())
}

// sendEntries sends entries that were not sent, if there are any.
func (n *Node) sendEntries() {
	if l := n.lead; l != nil && l.stage == fits && l.sent < n.store.Last() {
		n.beat()
	}
}

// advance commits what may be.
func (n *Node) advance() {
	l := n.lead
	to := n.store.Last()
	if l.tied() {
		to = min(to, l.acked) // 0, as long as what the other one has may not fit
	}
	n.commitTo(to)
}

// stated takes what the backup says it has.
func (n *Node) stated(m state) {
	l := n.lead
	if l == nil {
		return
	}
	if m.epoch > n.store.Epoch() {
		n.stepDown()
		return
	}
	if m.talk.salt != n.salt || m.talk.count != n.talks {
		return
	}
	l.silent = 0
	if l.stage != unknown && m.talk.run != l.run {
		n.begin() // it was started again
		return
	}
	switch l.stage {
	case unknown:
		l.run = m.talk.run
		l.stage = misfit
		if epoch, ok := n.epochAt(m.last); ok && epoch == m.lastEpoch && !m.blank {
			l.stage, l.acked, l.sent = fits, m.last, m.last
		}
	case handing:
		if m.sure && m.matched >= l.parts[0].index {
			l.acked = min(m.matched, n.store.Last())
			l.stage, l.sent, l.parts = fits, l.acked, nil
		}
	case fits:
		if m.sure && m.matched > l.acked {
			l.acked = min(m.matched, n.store.Last())
			l.sent = max(l.sent, l.acked)
			l.beats = 0
		}
	}
	n.advance()
	n.sendEntries()
	n.steer()
}

// steer asks the witness for what is to be.
func (n *Node) steer() {
	l := n.lead
	if l == nil || n.broken {
		return
	}
	want := 0
	switch {
	case l.stage == misfit && !l.tied():
		n.hand()
	case l.stage == misfit, l.tied() && l.silent >= patience:
		want = 1 << n.self
	case l.joining:
		want = both
	case !l.tied() && l.stage == fits && l.acked == n.store.Last():
		l.joining = true
		want = both
	}
	if want != l.want {
		l.want = want
		if want != 0 {
			n.swap()
		}
	}
}

// hand begins to hand the backup the snapshot at the base, in a talk of its own.
func (n *Node) hand() {
	l := n.lead
	_, snapshot := n.store.Base()
	unit := n.newUnit()
	if len(snapshot) > snapshotHead {
		unit = snapshot[snapshotHead:]
	}
	n.talks++
	l.stage, l.acked, l.sent, l.beats, l.parts = handing, 0, 0, 0, nil
	for at := 0; at < len(unit); at += partSize {
		l.parts = append(l.parts, part{
			epoch: n.store.Epoch(), talk: n.talk(), index: n.base, lastEpoch: n.baseEpoch,
			size: len(unit), at: at, data: unit[at:min(at+partSize, len(unit))],
		})
	}
	n.sendParts()
}

// newUnit tells the bytes of a unit to which nothing was done.
func (n *Node) newUnit() []byte {
	u, _ := lu.New(n.blocks)
	return u.Encode()
}

func (n *Node) sendParts() {
	for _, p := range n.lead.parts {
		n.send(Peer, p.seal())
	}
}
