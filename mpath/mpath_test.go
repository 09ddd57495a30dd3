package mpath

import (
	"bytes"
	"math"
	"slices"
	"testing"

	"gemel/api"
	"gemel/crc"
	"gemel/disk"
	"gemel/lu"
	"gemel/node"
	"gemel/store"
	"gemel/witness"
)

var ready = api.Command{Kind: api.TestReady}

func fresh(t *testing.T, host int) *Path {
	t.Helper()
	p, err := New(host)
	if err != api.OK {
		t.Fatal(err)
	}
	return p
}

func submit(t *testing.T, p *Path, c api.Command) uint64 {
	t.Helper()
	id, err := p.Submit(c)
	if err != api.OK {
		t.Fatalf("P2501: Submit: %v", err)
	}
	return id
}

// sent tells whether Out sends just these requests.
func sent(t *testing.T, p *Path, to int, want ...[]byte) {
	t.Helper()
	l := p.Out()
	if len(l) != len(want) {
		t.Fatalf("P2501: %d packets, not %d", len(l), len(want))
	}
	for i, x := range l {
		if x.To != to || !bytes.Equal(x.Data, want[i]) {
			t.Errorf("P2501: packet %d goes to %d", i, x.To)
		}
	}
}

// hinter tells what a node that is not primary answers: a blank one knows of none, others name one.
func hinter(t *testing.T, host int, primary int) []byte {
	t.Helper()
	d, _ := disk.New(store.Least())
	self := 1 - max(primary, 0)
	n, err := node.Open(self, 16, d, 1)
	if err != api.OK {
		t.Fatal(err)
	}
	if primary >= 0 {
		w, _ := disk.New(2)
		witness.Format(w, witness.Reg{Epoch: 9, Primary: primary, Members: 3})
		j, _ := node.OpenJudge(w)
		n.Tick()
		for _, x := range n.Out() {
			j.In(self, x.Data)
		}
		for _, x := range j.Out() {
			n.In(node.Judge, x.Data)
		}
	}
	n.In(node.Client+host, node.Request(host, 1, 1, ready))
	l := n.Out()
	if _, _, _, done, hint, ok := node.Answer(l[len(l)-1].Data); done || hint != primary || !ok {
		t.Fatalf("a hint of %d: %d", primary, hint)
	}
	return l[len(l)-1].Data
}

// server is a node that is primary by itself.
type server struct{ n *node.Node }

func newServer(t *testing.T) server {
	t.Helper()
	d, _ := disk.New(store.Least())
	w, _ := disk.New(2)
	node.Format(d)
	witness.Format(w, witness.Reg{Epoch: 1, Primary: 0, Members: 1})
	n, _ := node.Open(0, 16, d, 1)
	j, _ := node.OpenJudge(w)
	for range 3 {
		n.Tick()
		for _, x := range n.Out() {
			j.In(0, x.Data)
		}
		for _, x := range j.Out() {
			n.In(node.Judge, x.Data)
		}
	}
	if !n.Primary() {
		t.Fatal("a primary")
	}
	n.Out()
	return server{n}
}

// answer tells the packets that answer a request.
func (s server) answer(host int, b []byte) [][]byte {
	s.n.In(node.Client+host, b)
	var l [][]byte
	for _, x := range s.n.Out() {
		if x.To == node.Client+host {
			l = append(l, x.Data)
		}
	}
	return l
}

func TestNew(t *testing.T) {
	for _, h := range []int{-1, 8, math.MaxInt, math.MinInt} {
		if p, err := New(h); err != api.ErrArg || p != nil {
			t.Errorf("P2501: New(%d): %v", h, err)
		}
	}
	p := fresh(t, 7)
	if p.Node() != 0 || len(p.Waiting()) != 0 || len(p.Done()) != 0 || len(p.Out()) != 0 {
		t.Error("P2501: a new one")
	}
}

func TestSubmit(t *testing.T) {
	p := fresh(t, 2)
	for _, c := range []api.Command{{}, {Kind: -1}, {Kind: 19}, {Kind: api.Write, Data: make([]byte, 1025)}} {
		if id, err := p.Submit(c); id != 0 || err != api.ErrArg {
			t.Errorf("P2501: %d: %v", c.Kind, err)
		}
	}
	for want := uint64(1); want <= 4; want++ {
		if id := submit(t, p, api.Command{Kind: api.Reset, Data: make([]byte, 1024)}); id != want {
			t.Errorf("P2501: %d, not %d", id, want)
		}
	}
	if id, err := p.Submit(ready); id != 0 || err != api.ErrFull {
		t.Errorf("P2501: a fifth: %v", err)
	}
	if _, err := p.Submit(api.Command{}); err != api.ErrFull {
		t.Errorf("P6: ErrFull is ahead of ErrArg: %v", err)
	}
	if !slices.Equal(p.Waiting(), []uint64{1, 2, 3, 4}) {
		t.Errorf("P2501: %v", p.Waiting())
	}
}

func TestWindow(t *testing.T) {
	s := newServer(t)
	p := fresh(t, 2)
	for range 4 {
		submit(t, p, ready)
	}
	l := p.Out()
	bring := func(i int) {
		for _, b := range s.answer(2, l[i].Data) {
			p.In(0, b)
		}
	}
	bring(0)
	bring(2)
	bring(2)
	if d := p.Done(); len(d) != 2 || d[0].ID != 1 || d[1].ID != 3 || !lu.Same(d[0].Reply, api.Reply{}) || len(p.Done()) != 0 {
		t.Errorf("P2501: Done: %+v", d)
	}
	if !slices.Equal(p.Waiting(), []uint64{2, 4}) {
		t.Errorf("P2501: %v", p.Waiting())
	}
	if id := submit(t, p, ready); id != 5 {
		t.Errorf("P2501: %d", id)
	}
	if _, err := p.Submit(ready); err != api.ErrFull {
		t.Errorf("P2501: 6 is not below 2 and 4: %v", err)
	}
	sent(t, p, 0, node.Request(2, 5, 2, ready))
}

func TestAgain(t *testing.T) {
	p := fresh(t, 3)
	c := api.Command{Kind: api.Write, At: 1, N: 1, Data: []byte("12345678")}
	submit(t, p, c)
	c.Data[0] = 'x'
	c = api.Command{Kind: api.Write, At: 1, N: 1, Data: []byte("12345678")}
	sent(t, p, 0, node.Request(3, 1, 1, c))
	sent(t, p, 0)
	p.Tick()
	submit(t, p, ready)
	sent(t, p, 0, node.Request(3, 2, 1, ready))
	for range 2 {
		p.Tick()
		sent(t, p, 0)
	}
	p.Tick()
	sent(t, p, 0, node.Request(3, 1, 1, c))
	p.Tick()
	sent(t, p, 0, node.Request(3, 2, 1, ready))
}

func TestTheOtherNode(t *testing.T) {
	p := fresh(t, 3)
	for range 20 {
		p.Tick()
	}
	if p.Node() != 0 {
		t.Error("P2501: ticks in which nothing waits do not count")
	}
	submit(t, p, ready)
	for i := 1; i <= 24; i++ {
		p.Tick()
		if want := i / 8 % 2; p.Node() != want {
			t.Fatalf("P2501: behind %d ticks: node %d", i, p.Node())
		}
		if i%4 == 0 {
			sent(t, p, p.Node(), node.Request(3, 1, 1, ready))
		}
	}
}

func TestHints(t *testing.T) {
	p := fresh(t, 3)
	submit(t, p, ready)
	tick := func(n int) {
		for range n {
			p.Tick()
		}
	}
	tick(7)
	p.In(0, hinter(t, 3, -1))
	tick(1)
	if p.Node() != 1 {
		t.Error("P2501: a hint of -1 is no answer")
	}
	tick(5)
	p.In(1, hinter(t, 3, 0))
	if p.Node() != 0 {
		t.Error("P2501: the one that a hint named")
	}
	tick(7)
	if p.Node() != 0 {
		t.Error("P2501: a hint is an answer")
	}
	p.In(0, hinter(t, 3, 0))
	tick(7)
	if p.Node() != 0 {
		t.Error("P2501: a hint is an answer")
	}
	p.In(0, hinter(t, 4, 1))
	if p.Node() != 0 {
		t.Error("P2501: one for another host is nothing")
	}
	tick(1)
	if p.Node() != 1 || len(p.Done()) != 0 || len(p.Waiting()) != 1 {
		t.Error("P2501: eight ticks without an answer")
	}
}

func TestWhatIsNothing(t *testing.T) {
	s := newServer(t)
	p := fresh(t, 2)
	submit(t, p, ready)
	real := s.answer(2, p.Out()[0].Data)[0]
	for i := range real {
		b := slices.Clone(real)
		b[i] ^= 1
		p.In(0, b)
		p.In(0, real[:i])
	}
	p.In(0, crc.Seal([]byte("abc")))
	p.In(0, node.Request(2, 1, 1, ready))
	for _, b := range s.answer(3, node.Request(3, 1, 1, ready)) {
		p.In(0, b)
	}
	if len(p.Done()) != 0 || len(p.Waiting()) != 1 {
		t.Error("P2501: others are nothing")
	}
	p.In(0, real)
	p.In(0, real)
	if l := p.Done(); len(l) != 1 || l[0].ID != 1 {
		t.Errorf("P2501: %+v", l)
	}
	if len(p.Out()) != 0 {
		t.Error("P2501: it waits no more")
	}
	for range 8 {
		p.Tick()
	}
	if len(p.Out()) != 0 || p.Node() != 0 {
		t.Error("P2501: it waits no more")
	}
}
