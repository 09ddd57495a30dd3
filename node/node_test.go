package node

import (
	"bytes"
	"math"
	"math/rand"
	"reflect"
	"testing"

	"gemel/api"
	"gemel/crc"
	"gemel/disk"
	"gemel/lu"
	"gemel/store"
	"gemel/witness"
)

func newDisk(t *testing.T) *disk.Disk {
	t.Helper()
	d, _ := disk.New(store.Least())
	if err := Format(d); err != api.OK {
		t.Fatal(err)
	}
	return d
}

func opened(t *testing.T, self int, d *disk.Disk, salt uint32) *Node {
	t.Helper()
	n, err := Open(self, 16, d, salt)
	if err != api.OK {
		t.Fatalf("P2401: Open: %v", err)
	}
	return n
}

func judge(t *testing.T, r witness.Reg) *Judge1 {
	t.Helper()
	d, _ := disk.New(2)
	if err := witness.Format(d, r); err != api.OK {
		t.Fatal(err)
	}
	j, err := OpenJudge(d)
	if err != api.OK {
		t.Fatal(err)
	}
	return j
}

// alone tells a node that is primary without the other one, and its witness.
func alone(t *testing.T, d *disk.Disk) (*Node, *Judge1) {
	t.Helper()
	n, j := opened(t, 0, d, 5), judge(t, witness.Reg{Epoch: 1, Primary: 0, Members: 3})
	for range 20 {
		n.Tick()
		for _, p := range n.Out() {
			if p.To == Judge {
				j.In(0, p.Data)
			}
		}
		for _, p := range j.Out() {
			n.In(Judge, p.Data)
		}
	}
	if !n.Primary() || n.Epoch() != 2 {
		t.Fatalf("P2401: it takes over: %v, %d", n.Primary(), n.Epoch())
	}
	return n, j
}

// answers tells the Answers that a node sends.
func answers(n *Node) []Packet {
	var l []Packet
	for _, p := range n.Out() {
		if p.To >= Client {
			l = append(l, p)
		}
	}
	return l
}

func TestOpen(t *testing.T) {
	d := newDisk(t)
	for _, c := range [][2]int{{-1, 16}, {2, 16}, {0, 0}, {1, 1025}, {0, -1}} {
		if n, err := Open(c[0], c[1], d, 1); err != api.ErrArg || n != nil {
			t.Errorf("P2401: Open(%d, %d): %v", c[0], c[1], err)
		}
	}
	n := opened(t, 1, d, 1)
	if n.Primary() || n.Broken() || n.Epoch() != 1 || len(n.Out()) != 0 || len(n.Commits()) != 0 {
		t.Error("P2401: a new node")
	}
	small, _ := disk.New(store.Least() - 1)
	if n, err := Open(0, 16, small, 1); err != api.ErrForm || n != nil {
		t.Errorf("P2401: a small disk: %v", err)
	}
	if err := Format(small); err != api.ErrArg {
		t.Errorf("P2401: a small disk: %v", err)
	}
	d.Crash()
	if n, err := Open(0, 16, d, 1); err != api.ErrDown || n != nil {
		t.Errorf("P2401: without power: %v", err)
	}
	if err := Format(d); err != api.ErrDown {
		t.Errorf("P2401: without power: %v", err)
	}
	d.Die()
	if n, err := Open(0, 16, d, 1); err != api.ErrDead || n != nil {
		t.Errorf("P2401: a dead disk: %v", err)
	}
}

func TestABlankDisk(t *testing.T) {
	d, _ := disk.New(store.Least())
	n := opened(t, 0, d, 1)
	j := judge(t, witness.Reg{Epoch: 1, Primary: 0, Members: 1})
	for range 50 {
		n.Tick()
		for _, p := range n.Out() {
			j.In(0, p.Data)
		}
		for _, p := range j.Out() {
			n.In(Judge, p.Data)
		}
	}
	if n.Primary() || n.Epoch() != 0 || j.w.Get().Epoch != 1 {
		t.Error("P2401: it has nothing, and may be no primary")
	}
	n.In(Client, Request(0, 1, 1, api.Command{Kind: api.TestReady}))
	l := n.Out()
	if len(l) != 1 || l[0].To != Client {
		t.Fatalf("P2401: %d packets", len(l))
	}
	if host, id, r, done, hint, ok := Answer(l[0].Data); host != 0 || id != 1 || !reflect.DeepEqual(r, api.Reply{}) || done || hint != -1 || !ok {
		t.Errorf("P2401: a hint: %d, %v, %d, %v", id, done, hint, ok)
	}
}

func TestSnapshotsThatAreNone(t *testing.T) {
	u, _ := lu.New(32)
	for i, b := range [][]byte{nil, []byte("x"), make([]byte, 200), wrap(1, 1, u.Encode())} {
		d := newDisk(t)
		s, _ := store.Open(d)
		if err := s.Install(1, 5, b); err != api.OK {
			t.Fatal(err)
		}
		if n, err := Open(0, 16, d, 1); err != api.ErrForm || n != nil {
			t.Errorf("P2401: %d: %v", i, err)
		}
	}
}

func TestRequestsAndAnswers(t *testing.T) {
	d := newDisk(t)
	n, _ := alone(t, d)
	w := api.Command{Kind: api.Write, At: 3, N: 1, Data: []byte("12345678"), Force: true}
	ask := func(from int, b []byte, done int) {
		t.Helper()
		n.In(from, b)
		commits, l := n.Commits(), answers(n)
		if len(l) != done || len(commits) > done {
			t.Fatalf("P2402: %d answers, %d commits", len(l), len(commits))
		}
	}
	ask(Client+3, Request(3, 1, 1, w), 1)
	ask(Client+3, Request(3, 1, 1, w), 1) // told again
	ask(Client+2, Request(3, 2, 1, w), 0) // not its own host
	ask(Peer, Request(3, 2, 1, w), 0)
	ask(Judge, Request(3, 2, 1, w), 0)
	ask(Client+8, Request(8, 1, 1, w), 0)
	ask(Client-1, Request(-1, 1, 1, w), 0)
	ask(Client+256, Request(256, 1, 1, w), 0)
	ask(Client+3, Request(3, 0, 0, w), 0) // Busy
	long := w
	long.Data = make([]byte, 3000)
	ask(Client+3, Request(3, 2, 1, long), 0)
	for id := uint64(2); id <= 4; id++ {
		ask(Client+3, Request(3, id, 1, w), 1)
	}
	ask(Client+3, Request(3, 5, 1, w), 0) // Busy: a window
	ask(Client+3, Request(3, 5, 5, w), 1)
	ask(Client+3, Request(3, 4, 4, w), 0) // Busy: forgotten
	n.In(Client, Request(0, 7, 7, api.Command{Kind: api.Read, At: 3, N: 1}))
	l := n.Commits()
	want := []Commit{{6, 0, 7, api.Command{Kind: api.Read, At: 3, N: 1}}}
	if len(l) != 1 || l[0].Index != want[0].Index || l[0].Host != 0 || l[0].ID != 7 || !reflect.DeepEqual(l[0].C.Kind, want[0].C.Kind) {
		t.Errorf("P2401: %+v", l)
	}
	out := answers(n)
	host, id, r, done, hint, ok := Answer(out[0].Data)
	if out[0].To != Client || host != 0 || id != 7 || string(r.Data) != "12345678" || !done || hint != 0 || !ok {
		t.Errorf("P2401: %+v, %v, %d, %v", r, done, hint, ok)
	}
}

func TestCommandsAreToldAsTheyWereAsked(t *testing.T) {
	d := newDisk(t)
	n, _ := alone(t, d)
	c := api.Command{Kind: -5, At: math.MinInt, N: math.MaxInt, Data: []byte{1, 2}, Key: math.MaxUint64, New: 1 << 63, Type: -1, Force: true}
	n.In(Client+7, Request(7, math.MaxUint64, 3, c))
	l := n.Commits()
	if len(l) != 1 || !reflect.DeepEqual(l[0], Commit{1, 7, math.MaxUint64, c}) {
		t.Fatalf("P2402: %+v", l)
	}
	d.Crash()
	d.On()
	m := opened(t, 0, d, 6)
	if len(m.Commits()) != 0 || m.Primary() || m.Epoch() != 2 {
		t.Error("P2401: started again it knows of nothing")
	}
}

func TestStartedAgainItTakesOver(t *testing.T) {
	d := newDisk(t)
	n, j := alone(t, d)
	for id := uint64(1); id <= 100; id++ {
		n.In(Client, Request(0, id, id, api.Command{Kind: api.Write, At: int(id % 16), N: 1, Data: bytes.Repeat([]byte{byte(id)}, 8)}))
		n.Commits()
	}
	d.Crash()
	d.On()
	n = opened(t, 0, d, 6)
	for range 3 {
		n.Tick()
		for _, p := range n.Out() {
			if p.To == Judge {
				j.In(0, p.Data)
			}
		}
		for _, p := range j.Out() {
			n.In(Judge, p.Data)
		}
	}
	if !n.Primary() || n.Epoch() != 3 || j.w.Get() != (witness.Reg{Epoch: 3, Primary: 0, Members: 1}) {
		t.Fatalf("P2401: %v, %d", n.Primary(), n.Epoch())
	}
	commits := n.Commits() // those behind the base are told again, as they were
	for i, c := range commits {
		if c.Index != uint64(100-len(commits)+i+1) || c.ID != c.Index {
			t.Errorf("P2402: %+v", c)
		}
	}
	if len(commits) == 0 || len(commits) > 64 {
		t.Errorf("P2401: %d entries are behind the base", len(commits))
	}
	n.Out()
	n.In(Client, Request(0, 100, 100, api.Command{Kind: api.Read}))
	n.In(Client+1, Request(1, 1, 1, api.Command{Kind: api.Read, At: 100 % 16, N: 1}))
	l := answers(n)
	if len(l) != 2 {
		t.Fatalf("P2402: %d answers", len(l))
	}
	if _, _, r, done, _, _ := Answer(l[0].Data); !done || !lu.Same(r, api.Reply{}) {
		t.Errorf("P2402: %+v", r)
	}
	if _, _, r, _, _, _ := Answer(l[1].Data); !bytes.Equal(r.Data, bytes.Repeat([]byte{100}, 8)) {
		t.Errorf("P2402: %+v", r)
	}
}

func TestBroken(t *testing.T) {
	d := newDisk(t)
	n, _ := alone(t, d)
	n.In(Client, Request(0, 1, 1, api.Command{Kind: api.TestReady}))
	d.Arm(1)
	n.In(Client, Request(0, 2, 1, api.Command{Kind: api.TestReady}))
	if !n.Broken() || n.Primary() || len(n.Out()) != 0 || n.Epoch() != 2 {
		t.Error("P2401: its disk failed")
	}
	if l := n.Commits(); len(l) != 1 || l[0].ID != 1 {
		t.Errorf("P2401: what was committed ahead of it: %+v", l)
	}
	d.On()
	for range 20 {
		n.Tick()
	}
	n.In(Client, Request(0, 3, 1, api.Command{Kind: api.TestReady}))
	if len(n.Out()) != 0 || len(n.Commits()) != 0 || !n.Broken() {
		t.Error("P2401: it does nothing more")
	}
}

func TestWhatIsNoPacket(t *testing.T) {
	d := newDisk(t)
	n, j := alone(t, d)
	r := rand.New(rand.NewSource(1))
	real := Request(0, 1, 1, api.Command{Kind: api.TestReady})
	for i := range real {
		b := bytes.Clone(real)
		b[i] ^= 4
		n.In(Client, b)
		n.In(Client, real[:i])
	}
	for i := range 4000 {
		b := make([]byte, r.Intn(120))
		r.Read(b)
		if i%2 == 0 && len(b) > 3 {
			b[0], b[1], b[2] = mark>>8, mark&0xFF, byte(1+r.Intn(9))
		}
		if i%4 < 3 {
			b = crc.Seal(b)
		}
		for _, from := range []int{0, Peer, Judge, Client, Client + 1, -1, math.MaxInt} {
			if kind, _, ok := open(b); ok && (kind == kindBeat || kind == kindTold || kind == kindState || kind == kindRequest) {
				continue // one that is whole would count
			}
			n.In(from, b)
			j.In(from, b)
		}
		Answer(b)
	}
	if n.Broken() || !n.Primary() || len(n.Commits()) != 0 || j.Broken() {
		t.Error("P2401: what is no packet is nothing")
	}
}

func TestAnswerReadsAnswersOnly(t *testing.T) {
	for i, b := range [][]byte{
		nil, []byte("abc"), Request(1, 2, 3, api.Command{}), ask(), told(witness.Reg{Epoch: 1, Primary: 0, Members: 1}), crc.Seal(nil), crc.Seal(make([]byte, 60)),
	} {
		if host, id, r, done, hint, ok := Answer(b); host != 0 || id != 0 || !reflect.DeepEqual(r, api.Reply{}) || done || hint != 0 || ok {
			t.Errorf("P2401: %d", i)
		}
	}
	reply := api.Reply{Status: 2, Key: 14, Code: 0x1D00, Info: 9, Data: []byte("x")}
	b := answer(5, 6, reply, true, 0)
	if host, id, r, done, hint, ok := Answer(b); host != 5 || id != 6 || !lu.Same(r, reply) || !done || hint != 0 || !ok {
		t.Errorf("P2401: %+v", r)
	}
	if _, _, _, _, _, ok := Answer(append(b, 0)); ok {
		t.Error("P2401: one more byte")
	}
}

func TestHints(t *testing.T) {
	n := opened(t, 0, newDisk(t), 1)
	hint := func() int {
		t.Helper()
		n.In(Client+1, Request(1, 1, 1, api.Command{Kind: api.TestReady}))
		l := answers(n)
		if len(l) != 1 || l[0].To != Client+1 {
			t.Fatal("P2401: a hint")
		}
		_, _, _, done, hint, ok := Answer(l[0].Data)
		if done || !ok {
			t.Fatal("P2401: a hint")
		}
		return hint
	}
	if h := hint(); h != -1 {
		t.Errorf("P2401: not known: %d", h)
	}
	n.In(Judge, told(witness.Reg{Epoch: 4, Primary: 1, Members: 3}))
	if h := hint(); h != 1 {
		t.Errorf("P2401: node 1: %d", h)
	}
	n.In(Judge, told(witness.Reg{Epoch: 3, Primary: 0, Members: 3}))
	if h := hint(); h != 1 {
		t.Errorf("P2401: an elder register: %d", h)
	}
	n.In(Client, told(witness.Reg{Epoch: 5, Primary: 0, Members: 3}))
	n.In(Peer, told(witness.Reg{Epoch: 5, Primary: 0, Members: 3}))
	if h := hint(); h != 1 {
		t.Errorf("P2401: a register counts only from the witness: %d", h)
	}
}

func TestJudge(t *testing.T) {
	blank, _ := disk.New(2)
	if j, err := OpenJudge(blank); err != api.ErrForm || j != nil {
		t.Errorf("P2401: a blank disk: %v", err)
	}
	start := witness.Reg{Epoch: 1, Primary: 0, Members: 3}
	d, _ := disk.New(2)
	witness.Format(d, start)
	j, err := OpenJudge(d)
	if err != api.OK || j.Broken() || len(j.Out()) != 0 {
		t.Fatal(err)
	}
	for _, from := range []int{-1, 2, Client} {
		j.In(from, ask())
	}
	j.In(0, Request(0, 1, 1, api.Command{}))
	if len(j.Out()) != 0 {
		t.Error("P2401: it hears the nodes only")
	}
	j.In(1, ask())
	if l := j.Out(); len(l) != 1 || !reflect.DeepEqual(l[0], Packet{1, told(start)}) {
		t.Errorf("P2401: %+v", l)
	}
	next := witness.Reg{Epoch: 2, Primary: 1, Members: 2}
	j.In(1, swap(1, next))
	j.In(0, swap(1, witness.Reg{Epoch: 2, Primary: 0, Members: 1}))
	if l := j.Out(); len(l) != 2 || !reflect.DeepEqual(l, []Packet{{1, told(next)}, {0, told(next)}}) {
		t.Errorf("P2401: %+v", l)
	}
	d.Arm(1)
	j.In(0, ask())
	j.In(1, swap(2, witness.Reg{Epoch: 3, Primary: 1, Members: 3}))
	j.In(1, ask())
	if !j.Broken() || len(j.Out()) != 0 {
		t.Error("P2401: its disk failed")
	}
}

// TestAGreatUnit hands a unit of many parts to a blank disk.
func TestAGreatUnit(t *testing.T) {
	s := newSim(t, 1)
	for i, d := range s.disks[:2] {
		s.nodes[i], _ = Open(i, 1024, d, uint32(100+i))
	}
	for range 60 {
		s.calm()
	}
	write := func(from, to uint64) {
		for id := from; id <= to; id++ {
			c := api.Command{Kind: api.Write, At: int(id%32) * 32, N: 32, Data: bytes.Repeat([]byte{byte(id)}, 256)}
			s.asked[name{0, id}] = order{0, id, id, c}
			s.wire = append(s.wire, packet{Client, s.reg().Primary, Request(0, id, id, c)})
			if id%4 == 0 {
				s.calm()
			}
		}
		for range 20 {
			s.calm()
		}
		if !s.got[name{0, to}] {
			t.Fatal("P2401: it goes on")
		}
	}
	write(1, 100)
	p := s.reg().Primary
	s.stop(1 - p)
	s.disks[1-p].Die()
	s.disks[1-p].Replace()
	s.disks[1-p].On()
	s.nodes[1-p], _ = Open(1-p, 1024, s.disks[1-p], 200)
	s.said[1-p] = 0
	for range 100 {
		s.calm()
	}
	if s.reg().Members != 3 || s.nodes[1-p].Epoch() != s.reg().Epoch {
		t.Fatalf("P2401: %+v", s.reg())
	}
	s.stop(p)
	for range 60 {
		s.calm()
	}
	if s.reg().Primary != 1-p {
		t.Fatalf("P2401: %+v", s.reg())
	}
	c := api.Command{Kind: api.Read, At: 4 * 32, N: 1}
	s.asked[name{1, 1}] = order{1, 1, 1, c}
	s.wire = append(s.wire, packet{Client + 1, 1 - p, Request(1, 1, 1, c)})
	s.calm()
	if x := s.told[len(s.told)-1]; x.name != (name{1, 1}) || !bytes.Equal(x.r.Data, bytes.Repeat([]byte{100}, 8)) {
		t.Errorf("P2402: %+v", x)
	}
}

func TestWhereCommitsIsNotCalled(t *testing.T) {
	n, _ := alone(t, newDisk(t))
	for id := uint64(1); id <= 300; id++ {
		n.In(Client, Request(0, id, id, api.Command{Kind: api.Compare, N: 1, Data: make([]byte, 1900)}))
	}
	l := n.Commits()
	if len(l) != 300 || n.Broken() || len(answers(n)) != 300 {
		t.Fatalf("P2401: %d commits", len(l))
	}
	for i, c := range l {
		if c.Index != uint64(i+1) || c.ID != c.Index {
			t.Fatalf("P2401: %+v", c)
		}
	}
}

func TestOpenEntriesHaveABound(t *testing.T) {
	s := newSim(t, 1)
	for range 60 {
		s.calm()
	}
	p := s.nodes[s.reg().Primary]
	for id := uint64(1); id <= 200; id++ { // the other one hears nothing
		p.In(Client, Request(0, id, id, api.Command{Kind: api.Compare, N: 1, Data: make([]byte, 1900)}))
	}
	if p.Broken() || len(p.Commits()) != 0 || len(answers(p)) != 0 {
		t.Error("P2402: nothing is committed without the other one")
	}
}

func TestABackupThatLagsBehind(t *testing.T) {
	s := newSim(t, 1)
	for range 60 {
		s.calm()
	}
	p := s.reg().Primary
	other := s.nodes[1-p]
	s.nodes[1-p] = nil // it hears nothing, but goes on
	id := uint64(0)
	for range 100 {
		id++
		c := api.Command{Kind: api.Write, N: 1, Data: bytes.Repeat([]byte{byte(id)}, 8)}
		s.asked[name{0, id}] = order{0, id, id, c}
		s.wire = append(s.wire, packet{Client, p, Request(0, id, id, c)})
		s.calm()
	}
	if s.reg().Members != 1<<p || s.nodes[p].base < 60 || !s.got[name{0, 100}] {
		t.Fatalf("P2401: the others go on: %+v, base %d", s.reg(), s.nodes[p].base)
	}
	s.nodes[1-p] = other
	for range 100 {
		s.calm()
	}
	if s.reg().Members != 3 || other.store.Last() != s.nodes[p].store.Last() {
		t.Errorf("P2401: it is a member again: %+v", s.reg())
	}
}
