package node

import (
	"bytes"
	"math"
	"math/rand"
	"testing"

	"gemel/api"
	"gemel/disk"
	"gemel/lu"
	"gemel/store"
	"gemel/witness"
)

// states tells what a node says to its peer of what it has.
func states(n *Node) []state {
	var l []state
	for _, p := range n.Out() {
		if kind, r, ok := open(p.Data); ok && kind == kindState && p.To == Peer {
			l = append(l, r.state())
		}
	}
	return l
}

// swaps tells the registers that a node asks for.
func swaps(n *Node) []witness.Reg {
	var l []witness.Reg
	for _, p := range n.Out() {
		if kind, r, ok := open(p.Data); ok && kind == kindSwap && p.To == Judge {
			r.long()
			l = append(l, r.register())
		}
	}
	return l
}

// beats tells what a primary says.
func beats(n *Node) []beat {
	var l []beat
	for _, p := range n.Out() {
		if kind, r, ok := open(p.Data); ok && kind == kindBeat && p.To == Peer {
			l = append(l, r.beat())
		}
	}
	return l
}

// entry tells an entry of a write.
func entry(index, epoch uint64) store.Entry {
	o := order{0, index, index, api.Command{Kind: api.Write, N: 1, Data: bytes.Repeat([]byte{byte(index)}, 8)}}
	return store.Entry{Index: index, Epoch: epoch, Data: o.encode()}
}

// the talk of a primary of salt 70 with a node of salt 1.
func with(count uint64) talk { return talk{70, count, 1, true} }

func one(t *testing.T, n *Node) state {
	t.Helper()
	l := states(n)
	if len(l) != 1 {
		t.Fatalf("P2401: %d states", len(l))
	}
	return l[0]
}

func TestABackupFollows(t *testing.T) {
	n := opened(t, 1, newDisk(t), 1)
	n.In(Peer, beat{epoch: 2, talk: talk{70, 1, 0, false}, commit: 9}.seal())
	if s := one(t, n); s.epoch != 1 || s.sure || s.last != 0 || s.blank || s.talk != (talk{70, 1, 1, true}) {
		t.Errorf("P2401: what it has: %+v", s)
	}
	n.In(Peer, beat{epoch: 2, talk: with(1), commit: 1, entries: []store.Entry{entry(1, 2), entry(2, 2)}}.seal())
	if s := one(t, n); s.epoch != 2 || !s.sure || s.matched != 2 || s.last != 2 || s.lastEpoch != 2 {
		t.Errorf("P2401: what it took: %+v", s)
	}
	if l := n.Commits(); len(l) != 1 || l[0].Index != 1 {
		t.Errorf("P2401: what is committed: %+v", l)
	}
	n.In(Peer, beat{epoch: 2, talk: with(1), prev: 1, prevEpoch: 2, commit: 3, entries: []store.Entry{entry(2, 2), entry(3, 2)}}.seal())
	if s := one(t, n); !s.sure || s.matched != 3 || len(n.Commits()) != 2 {
		t.Errorf("P2401: some that it has: %+v", s)
	}
	for i, m := range []beat{
		{prev: 5, prevEpoch: 2, entries: []store.Entry{entry(6, 2)}},                             // a gap
		{prev: 3, prevEpoch: 1, entries: []store.Entry{entry(4, 2)}},                             // another one is there
		{prev: 1, prevEpoch: 2, entries: []store.Entry{entry(2, 1), entry(3, 2)}},                // another one is there
		{prev: 3, prevEpoch: 2, commit: 9},                                                       // no more than it has
		{prev: 3, prevEpoch: 2, talk: talk{70, 1, 2, true}, entries: []store.Entry{entry(4, 2)}}, // for another life
	} {
		m.epoch = 2
		if m.talk.salt == 0 {
			m.talk = with(1)
		}
		n.In(Peer, m.seal())
		if s := one(t, n); s.sure != (i == 3) || s.last != 3 || len(n.Commits()) != 0 {
			t.Errorf("P2402: %d: %+v", i, s)
		}
	}
}

func TestElderEpochsAndTalks(t *testing.T) {
	n := opened(t, 1, newDisk(t), 1)
	n.In(Peer, beat{epoch: 4, talk: with(3), entries: []store.Entry{entry(1, 4)}}.seal())
	one(t, n)
	n.In(Peer, beat{epoch: 3, talk: with(9), prev: 1, prevEpoch: 4, commit: 1, entries: []store.Entry{entry(2, 3)}}.seal())
	if s := one(t, n); s.epoch != 4 || s.sure || s.last != 1 {
		t.Errorf("P2402: an elder epoch is a reason to tell one's own: %+v", s)
	}
	n.In(Peer, beat{epoch: 4, talk: with(2), prev: 1, prevEpoch: 4, commit: 1, entries: []store.Entry{entry(2, 4)}}.seal())
	if len(states(n)) != 0 || n.store.Last() != 1 || len(n.Commits()) != 0 {
		t.Error("P2402: an elder talk is nothing")
	}
	n.In(Judge, beat{epoch: 4, talk: with(3), prev: 1, prevEpoch: 4, entries: []store.Entry{entry(2, 4)}}.seal())
	n.In(Client, beat{epoch: 4, talk: with(3), prev: 1, prevEpoch: 4, entries: []store.Entry{entry(2, 4)}}.seal())
	if n.store.Last() != 1 {
		t.Error("P2401: a beat counts from the peer only")
	}
}

// parts tells the parts of a snapshot of a unit of some blocks.
func parts(t *testing.T, blocks int, epoch, index uint64, k talk) []part {
	t.Helper()
	u, _ := lu.New(blocks)
	for at := 0; at < blocks; at += 16 {
		u.Do(0, api.Command{Kind: api.Write, At: at, N: 16, Data: bytes.Repeat([]byte{byte(index)}, 128)})
	}
	b := u.Encode()
	var l []part
	for at := 0; at < len(b); at += partSize {
		l = append(l, part{epoch: epoch, talk: k, index: index, lastEpoch: 3, size: len(b), at: at, data: b[at:min(at+partSize, len(b))]})
	}
	return l
}

func blank(t *testing.T, blocks int) *Node {
	t.Helper()
	d, _ := disk.New(store.Least())
	n, err := Open(1, blocks, d, 1)
	if err != api.OK {
		t.Fatal(err)
	}
	return n
}

func TestASnapshotIsHanded(t *testing.T) {
	n := blank(t, 1024)
	l := parts(t, 1024, 5, 40, with(2))
	if len(l) < 3 {
		t.Fatal("some parts")
	}
	for _, k := range []talk{{70, 2, 9, true}} { // to another life
		for _, p := range l {
			p.talk = k
			n.In(Peer, p.seal())
		}
	}
	for _, p := range l[1:] {
		n.In(Peer, p.seal())
		n.In(Peer, p.seal())
	}
	for _, p := range []part{{size: -1}, {size: 1 << 40}, {at: -4096, size: 9}, {at: 5, size: 9}, {size: 9, data: []byte("12345678")}, {size: 0}} {
		p.epoch, p.talk = 5, with(2)
		n.In(Peer, p.seal())
	}
	for _, p := range l[1:] {
		n.In(Peer, p.seal())
	}
	if n.Epoch() != 0 || len(states(n)) != 0 {
		t.Fatal("P2401: not all came")
	}
	n.In(Peer, l[0].seal())
	if s := one(t, n); !s.sure || s.matched != 40 || s.last != 40 || s.lastEpoch != 3 || s.epoch != 5 || s.blank {
		t.Fatalf("P2401: it is installed: %+v", s)
	}
	n.In(Peer, beat{epoch: 5, talk: with(2), prev: 40, prevEpoch: 3, commit: 41, entries: []store.Entry{entry(41, 5)}}.seal())
	if s := one(t, n); !s.sure || s.matched != 41 || len(n.Commits()) != 1 {
		t.Errorf("P2401: it goes on: %+v", s)
	}
	for _, p := range l { // they come twice
		n.In(Peer, p.seal())
	}
	if l := states(n); len(l) == 0 || l[0].last != 41 || n.store.Last() != 41 {
		t.Error("P2402: what was acknowledged stays")
	}
	for _, p := range parts(t, 16, 5, 50, with(3)) { // another number of blocks
		n.In(Peer, p.seal())
	}
	if n.store.Last() != 41 || n.Broken() {
		t.Error("P2401: a snapshot that is none")
	}
}

func TestWhoWasInstalledTakesOverByAGreaterEpoch(t *testing.T) {
	n := blank(t, 16)
	for _, p := range parts(t, 16, 5, 40, with(2)) {
		n.In(Peer, p.seal())
	}
	n.Out()
	for range patience {
		n.Tick()
	}
	for _, r := range []witness.Reg{{Epoch: 4, Primary: 0, Members: 3}, {Epoch: 5, Primary: 0, Members: 3}, {Epoch: 6, Primary: 0, Members: 1}} {
		n.In(Judge, told(r))
		if l := swaps(n); len(l) != 0 {
			t.Errorf("P2402: by %+v: %+v", r, l)
		}
	}
	n.In(Judge, told(witness.Reg{Epoch: 7, Primary: 0, Members: 3}))
	if l := swaps(n); len(l) != 1 || l[0] != (witness.Reg{Epoch: 8, Primary: 1, Members: 2}) || n.Primary() {
		t.Errorf("P2401: %+v", l)
	}
	n.In(Judge, told(witness.Reg{Epoch: 8, Primary: 0, Members: 1}))
	if n.Primary() || len(swaps(n)) != 0 {
		t.Error("P2401: the register says another one")
	}
}

func TestABackupIsPatient(t *testing.T) {
	n := opened(t, 1, newDisk(t), 1)
	reg := told(witness.Reg{Epoch: 2, Primary: 0, Members: 3})
	hear := func() { n.In(Peer, beat{epoch: 2, talk: talk{70, 1, 0, false}}.seal()) }
	for range 3 {
		hear()
		for range patience - 1 {
			n.Tick()
			n.In(Judge, reg)
		}
		if len(swaps(n)) != 0 {
			t.Fatal("P2401: it heard from the primary")
		}
	}
	n.Tick()
	n.In(Judge, reg)
	if l := swaps(n); len(l) != 1 || l[0] != (witness.Reg{Epoch: 3, Primary: 1, Members: 2}) {
		t.Errorf("P2401: it heard nothing for ten ticks: %+v", l)
	}
	n.In(Judge, told(witness.Reg{Epoch: 3, Primary: 1, Members: 2}))
	if !n.Primary() || n.Epoch() != 3 {
		t.Error("P2401: it takes over")
	}
}

// led tells a primary of epoch 3 that has both as members, one entry open and a backup of salt 9.
func led(t *testing.T) (*Node, talk) {
	t.Helper()
	n, j := alone(t, newDisk(t))
	n.Tick()
	n.Tick()
	l := beats(n)
	k := l[len(l)-1].talk
	k.run, k.known = 9, true
	n.In(Peer, state{epoch: 1, talk: k}.seal())
	for _, p := range n.Out() {
		if p.To == Judge {
			j.In(0, p.Data)
		}
	}
	for _, p := range j.Out() {
		n.In(Judge, p.Data)
	}
	if j.w.Get() != (witness.Reg{Epoch: 3, Primary: 0, Members: 3}) || n.Epoch() != 3 {
		t.Fatalf("P2401: both are members: %+v", j.w.Get())
	}
	n.In(Client, Request(0, 1, 1, api.Command{Kind: api.TestReady}))
	if len(n.Commits()) != 0 {
		t.Fatal("P2402: nothing is committed without the other one")
	}
	n.Out()
	return n, k
}

func TestAcknowledgements(t *testing.T) {
	n, k := led(t)
	for _, other := range []talk{{k.salt + 1, k.count, 9, true}, {k.salt, k.count - 1, 9, true}, {k.salt, k.count + 1, 9, true}} {
		n.In(Peer, state{epoch: 3, talk: other, last: 1, lastEpoch: 3, sure: true, matched: 1}.seal())
	}
	n.In(Peer, state{epoch: 3, talk: k, last: 1, lastEpoch: 3, matched: 1}.seal())
	n.In(Judge, state{epoch: 3, talk: k, last: 1, lastEpoch: 3, sure: true, matched: 1}.seal())
	if len(n.Commits()) != 0 || len(answers(n)) != 0 {
		t.Fatal("P2402: they are of another talk")
	}
	n.In(Peer, state{epoch: 3, talk: k, last: 1, lastEpoch: 3, sure: true, matched: 1}.seal())
	if len(n.Commits()) != 1 || len(answers(n)) != 1 {
		t.Error("P2402: it is durable with all")
	}
	n, k = led(t)
	k.run = 10 // it was started again
	n.In(Peer, state{epoch: 3, talk: k, last: 1, lastEpoch: 3, sure: true, matched: 1}.seal())
	if l := beats(n); len(n.Commits()) != 0 || len(l) != 1 || l[0].talk.count != k.count+1 || l[0].talk.known {
		t.Errorf("P2402: another run: %+v", l)
	}
	k.count++
	n.In(Peer, state{epoch: 3, talk: k, last: 1, lastEpoch: 3}.seal())
	if len(n.Commits()) != 1 {
		t.Error("P2402: what it has is a front of what is here")
	}
}

func TestAMemberThatIsBlank(t *testing.T) {
	n, k := led(t)
	k.run = 10
	n.In(Peer, state{epoch: 0, talk: k, blank: true}.seal())
	k.count++
	n.Out()
	n.In(Peer, state{epoch: 0, talk: k, blank: true}.seal())
	out := n.Out()
	for _, p := range out {
		if kind, _, _ := open(p.Data); kind == kindPart {
			t.Fatal("P2402: a primary drops a member ahead of any Install")
		}
	}
	n.In(Judge, told(witness.Reg{Epoch: 4, Primary: 0, Members: 1}))
	parts := 0
	for _, p := range n.Out() {
		if kind, r, _ := open(p.Data); kind == kindPart {
			m := r.part()
			parts++
			if m.epoch != 4 || m.talk.run != 10 || m.talk.count != k.count+1 {
				t.Errorf("P2401: %+v", m.talk)
			}
		}
	}
	if parts == 0 || len(n.Commits()) != 1 {
		t.Error("P2401: it is handed a snapshot, and the others go on")
	}
	k.count++
	n.In(Peer, state{epoch: 0, talk: k, blank: true}.seal())
	if len(swaps(n)) != 0 {
		t.Error("P2402: it has not got the snapshot")
	}
	n.In(Peer, state{epoch: 4, talk: k, sure: true}.seal())
	if l := beats(n); len(l) != 1 || len(l[0].entries) != 1 {
		t.Errorf("P2401: the entries behind it: %+v", l)
	}
	n.In(Peer, state{epoch: 4, talk: k, last: 1, lastEpoch: 3, sure: true, matched: 1}.seal())
	if l := swaps(n); len(l) != 1 || l[0] != (witness.Reg{Epoch: 5, Primary: 0, Members: 3}) {
		t.Errorf("P2401: it has all: %+v", l)
	}
}

func TestAMemberThatIsSilent(t *testing.T) {
	n, _ := led(t)
	n.lead.silent = 0
	for range patience - 1 {
		n.Tick()
	}
	if len(swaps(n)) != 0 {
		t.Error("P2401: it is patient")
	}
	n.Tick()
	if l := swaps(n); len(l) == 0 || l[0] != (witness.Reg{Epoch: 4, Primary: 0, Members: 1}) || len(n.Commits()) != 0 {
		t.Errorf("P2401: a member that does not acknowledge for ten ticks: %+v", l)
	}
	n.In(Judge, told(witness.Reg{Epoch: 3, Primary: 0, Members: 3}))
	if len(n.Commits()) != 0 {
		t.Error("P2402: the witness has told no epoch above")
	}
	n.In(Judge, told(witness.Reg{Epoch: 4, Primary: 0, Members: 1}))
	if len(n.Commits()) != 1 || n.Epoch() != 4 {
		t.Error("P2402: it goes on alone")
	}
}

func TestAPrimaryThatIsNoMore(t *testing.T) {
	for name, turn := range map[string]func(n *Node, k talk){
		"a state": func(n *Node, k talk) { n.In(Peer, state{epoch: 4, talk: talk{1, 1, 1, true}}.seal()) },
		"a beat":  func(n *Node, k talk) { n.In(Peer, beat{epoch: 4, talk: talk{1, 1, 1, true}}.seal()) },
		"a part":  func(n *Node, k talk) { n.In(Peer, part{epoch: 4, talk: talk{1, 1, 5, true}}.seal()) },
		"told":    func(n *Node, k talk) { n.In(Judge, told(witness.Reg{Epoch: 4, Primary: 1, Members: 2})) },
		"far":     func(n *Node, k talk) { n.In(Judge, told(witness.Reg{Epoch: 5, Primary: 0, Members: 1})) },
	} {
		n, k := led(t)
		turn(n, k)
		n.In(Peer, state{epoch: 3, talk: k, last: 1, lastEpoch: 3, sure: true, matched: 1}.seal())
		if n.Primary() || len(n.Commits()) != 0 {
			t.Errorf("P2401: %s: an epoch above its own", name)
		}
	}
	n, k := led(t)
	n.In(Peer, beat{epoch: 3, talk: talk{1, 1, 1, true}}.seal())
	n.In(Peer, beat{epoch: 2, talk: talk{1, 1, 1, true}}.seal())
	n.In(Judge, told(witness.Reg{Epoch: 2, Primary: 1, Members: 2}))
	if !n.Primary() {
		t.Error("P2401: an epoch that is not above its own")
	}
	n.In(Peer, state{epoch: 3, talk: k, last: 1, lastEpoch: 3, sure: true, matched: 1}.seal())
	if len(n.Commits()) != 1 {
		t.Error("P2402: it goes on")
	}
}

func TestWhatIsNotAcknowledgedIsSentAgain(t *testing.T) {
	n, _ := led(t)
	sent := 0
	for range 12 {
		n.Tick()
		for _, m := range beats(n) {
			sent += len(m.entries)
		}
	}
	if sent < 2 || sent > 6 {
		t.Errorf("P2401: the entry is sent %d times", sent)
	}
}

func TestEveryNodeLooksNowAndThen(t *testing.T) {
	asks := func(n *Node, heard bool) int {
		k := 0
		for range 5 * everyLook {
			if heard {
				n.In(Peer, beat{epoch: 2, talk: talk{70, 1, 0, false}}.seal())
			}
			n.Tick()
			for _, p := range n.Out() {
				if kind, _, _ := open(p.Data); kind == kindAsk {
					k++
				}
			}
		}
		return k
	}
	n, _ := alone(t, newDisk(t))
	if k := asks(n, false); k != 5 {
		t.Errorf("P2401: a primary asks %d times", k)
	}
	if k := asks(opened(t, 1, newDisk(t), 1), true); k < 5 || k > 6 {
		t.Errorf("P2401: a backup asks %d times", k)
	}
	if k := asks(opened(t, 1, newDisk(t), 1), false); k < 20 {
		t.Errorf("P2401: one that knows of no primary asks %d times", k)
	}
}

// TestOddTalks brings whole packets that no machine would send: nothing is promised of them but that calls end.
func TestOddTalks(t *testing.T) {
	for seed := range int64(40) {
		r := rand.New(rand.NewSource(seed))
		number := func() uint64 {
			return []uint64{0, 1, 2, 3, uint64(r.Intn(9)), 1 << 62, math.MaxUint64 - 1, math.MaxUint64}[r.Intn(3+r.Intn(6))]
		}
		d := newDisk(t)
		n, _ := alone(t, d)
		if seed%2 == 0 {
			n = blank(t, 16)
		}
		unit := parts(t, 16, 1, 1, talk{})[0].data
		for range 300 {
			k := talk{[]uint32{5, 1, 70}[r.Intn(3)], n.talks + uint64(r.Intn(3)) - 1, []uint32{5, 1, 0}[r.Intn(3)], r.Intn(2) == 0}
			switch r.Intn(6) {
			case 0:
				m := beat{epoch: number(), talk: k, prev: number(), prevEpoch: number(), commit: number()}
				for range r.Intn(3) {
					e := entry(1, number())
					e.Data = e.Data[:r.Intn(len(e.Data)+1)]
					m.entries = append(m.entries, e)
				}
				n.In(Peer, m.seal())
			case 1:
				n.In(Peer, part{number(), k, number(), number(), len(unit), 0, unit}.seal())
			case 2:
				n.In(Peer, state{number(), k, r.Intn(2) == 0, number(), number(), r.Intn(2) == 0, number()}.seal())
			case 3:
				p := r.Intn(2)
				n.In(Judge, told(witness.Reg{Epoch: number(), Primary: p, Members: 1<<p | r.Intn(4)}))
			case 4:
				n.In(Client, Request(0, number(), number(), api.Command{Kind: r.Intn(20)}))
			default:
				n.Tick()
			}
			n.Out()
			n.Commits()
		}
	}
}
