package client

import (
	"bytes"
	"math/rand"
	"reflect"
	"testing"

	"gemel/api"
	"gemel/login"
	"gemel/lu"
	"gemel/pdu"
	"gemel/sense"
	"gemel/target"
)

const me = "iqn.me"

func params() login.Params {
	p := login.Ours()
	p.Name = me
	return p
}

// pipe is a client and a target, and what the target did.
type pipe struct {
	c    *Client
	s    *target.Session
	did  []api.Command
	do   func(c api.Command) api.Reply
	toS  []byte
	toC  []byte
	step func(n int) int // how many of so many bytes go at once
}

func newPipe(p login.Params) *pipe {
	x := &pipe{c: New(p), step: func(n int) int { return n }, do: func(api.Command) api.Reply { return api.Reply{} }}
	x.s = target.New([]string{me}, func(_ string, c api.Command) api.Reply {
		x.did = append(x.did, c)
		return x.do(c)
	})
	return x
}

// run lets bytes go both ways till there are none.
func (x *pipe) run() {
	for {
		x.toS = append(x.toS, x.c.Out()...)
		if len(x.toS)+len(x.toC) == 0 {
			return
		}
		n, m := x.step(len(x.toS)), x.step(len(x.toC))
		x.toC = append(x.toC, x.s.In(x.toS[:n])...)
		x.toS = x.toS[n:]
		x.c.In(x.toC[:m])
		x.toC = x.toC[m:]
	}
}

func opened(t *testing.T) *pipe {
	t.Helper()
	x := newPipe(params())
	x.run()
	if !x.c.Open() || x.c.Closed() || x.s.Name() != me {
		t.Fatal("P2101: a client logs in by itself")
	}
	return x
}

func do(t *testing.T, c *Client, x api.Command) uint32 {
	t.Helper()
	tag, err := c.Do(x)
	if err != api.OK {
		t.Fatalf("P2101: Do: %v", err)
	}
	return tag
}

func fill(n int, x byte) []byte { return bytes.Repeat([]byte{x}, n) }

func TestLogin(t *testing.T) {
	c := New(params())
	if c.Open() || c.Closed() || c.Waiting() != 0 {
		t.Error("P2101: a new client")
	}
	p, n, err := pdu.Decode(c.Out())
	if err != api.OK || p.Op != pdu.LoginReq || n == 0 || len(c.Out()) != 0 {
		t.Errorf("P2101: it asks once: %+v, %v", p, err)
	}
	opened(t)
}

func TestLoginsThatFail(t *testing.T) {
	other := params()
	other.Name = "iqn.other"
	x := newPipe(other)
	tag := do(t, x.c, api.Command{Kind: api.TestReady})
	x.run()
	if !x.c.Closed() || x.c.Open() || x.c.Waiting() != 0 || len(x.c.Out()) != 0 || len(x.c.Done()) != 0 || x.c.Abort(tag) {
		t.Error("P2101: a login that failed")
	}
	if tag, err := x.c.Do(api.Command{Kind: api.TestReady}); tag != 0 || err != api.ErrDown {
		t.Errorf("P2101: Do: %v", err)
	}
	if _, err := x.c.Do(api.Command{}); err != api.ErrArg {
		t.Errorf("P6: %v", err)
	}
}

func TestDoRefuses(t *testing.T) {
	c := New(params())
	for _, x := range []api.Command{
		{}, {Kind: api.Reset}, {Kind: api.Read, At: -1}, {Kind: api.Reserve, Type: 16}, {Kind: api.Write, N: 1, Data: fill(7, 0)},
		{Kind: api.Write, N: 1}, {Kind: api.Compare, N: 1, Data: fill(8, 0)}, {Kind: api.TestReady, Data: fill(1, 0)}, {Kind: api.Write, N: 33, Data: fill(264, 0)},
	} {
		if tag, err := c.Do(x); tag != 0 || err != api.ErrArg || c.Waiting() != 0 {
			t.Errorf("P2101: %+v: %v", x, err)
		}
	}
	seen := map[uint32]int{}
	for i := range 16 {
		seen[do(t, c, api.Command{Kind: api.Register, Data: fill(3, 0)})] = i
	}
	if tag, err := c.Do(api.Command{Kind: api.TestReady}); tag != 0 || err != api.ErrFull || len(seen) != 16 || c.Waiting() != 16 {
		t.Errorf("P2101: sixteen wait: %v", err)
	}
	if _, err := c.Do(api.Command{}); err != api.ErrArg {
		t.Errorf("P6: %v", err)
	}
}

func TestRepliesAreThoseOfDo(t *testing.T) {
	x := opened(t)
	for i, c := range []struct{ made, want api.Reply }{
		{api.Reply{}, api.Reply{}},
		{sense.Good(fill(9000, 5)), sense.Good(fill(9000, 5))},
		{api.Reply{Status: 24}, api.Reply{Status: 24}},
		{api.Reply{Status: 8, Data: fill(3, 1)}, api.Reply{Status: 8}},
		{api.Reply{Status: 2, Key: 14, Code: 0x1D00, Info: 1<<32 + 77}, api.Reply{Status: 2, Key: 14, Code: 0x1D00, Info: 77}},
		{api.Reply{Status: 2, Key: 5, Code: 0x2100, Info: 77}, api.Reply{Status: 2, Key: 5, Code: 0x2100}},
	} {
		x.do = func(api.Command) api.Reply { return c.made }
		tag := do(t, x.c, api.Command{Kind: api.Read, N: 1})
		x.run()
		l := x.c.Done()
		if len(l) != 1 || l[0].Tag != tag || !lu.Same(l[0].Reply, c.want) || x.c.Waiting() != 0 || len(x.c.Done()) != 0 {
			t.Errorf("P2102: %d: %+v", i, l)
		}
	}
}

func TestCommandsThatWaitForLogin(t *testing.T) {
	for _, immediate := range []bool{true, false} {
		p := params()
		p.Immediate = immediate
		x := newPipe(p)
		l := []api.Command{
			{Kind: api.TestReady}, {Kind: api.Write, At: 3, N: 2, Data: fill(16, 1), Force: true}, {Kind: api.Compare, N: 32, Data: fill(512, 2)},
			{Kind: api.Preempt, Key: 4, New: 5, Type: 6}, {Kind: api.Unmap, At: 1, N: 1},
		}
		for _, c := range l {
			do(t, x.c, c)
		}
		x.run()
		if len(x.did) != len(l) || len(x.c.Done()) != len(l) {
			t.Fatalf("P2102: %d were done", len(x.did))
		}
		if immediate && !reflect.DeepEqual(x.did, l) {
			t.Errorf("P2102: %+v", x.did)
		}
		if !immediate { // those that need data are done later
			if !reflect.DeepEqual(x.did, []api.Command{l[0], l[4], l[1], l[2], l[3]}) {
				t.Errorf("P2102: %+v", x.did)
			}
		}
	}
}

func TestAbort(t *testing.T) {
	p := params()
	p.Immediate = false
	x := newPipe(p)
	x.run()
	if x.c.Abort(1) {
		t.Error("P2101: it does not wait")
	}
	unsent := do(t, x.c, api.Command{Kind: api.TestReady})
	if !x.c.Abort(unsent) || x.c.Abort(unsent) || x.c.Waiting() != 0 || len(x.c.Out()) != 0 {
		t.Error("P2101: Abort of one that was not sent")
	}
	var tags []uint32
	for range 16 {
		tags = append(tags, do(t, x.c, api.Command{Kind: api.Write, N: 32, Data: fill(256, 1)}))
	}
	x.toC = x.s.In(x.c.Out()) // the target asks for data of sixteen
	if !x.c.Abort(tags[3]) {
		t.Error("P2101: Abort")
	}
	more := do(t, x.c, api.Command{Kind: api.Write, N: 1, Data: fill(8, 9)})
	x.run()
	if len(x.did) != 16 || x.s.Held() != 0 || x.s.Closed() {
		t.Errorf("P2101: one that was sent is left at the target: %d were done", len(x.did))
	}
	told := map[uint32]bool{}
	for _, d := range x.c.Done() {
		told[d.Tag] = d.Reply.Status == api.Good
	}
	if len(told) != 16 || !told[more] || told[tags[3]] {
		t.Errorf("P2101: %v", told)
	}
}

func TestAbortOfDataThatIsAskedFor(t *testing.T) {
	p := params()
	p.Immediate = false
	x := newPipe(p)
	x.run()
	tag := do(t, x.c, api.Command{Kind: api.Write, N: 1, Data: fill(8, 1)})
	x.c.In(x.s.In(x.c.Out()))
	other := do(t, x.c, api.Command{Kind: api.Write, N: 1, Data: fill(8, 2)})
	if !x.c.Abort(tag) {
		t.Error("P2101: Abort")
	}
	x.run()
	if l := x.c.Done(); len(x.did) != 1 || len(l) != 1 || l[0].Tag != other || x.c.Closed() {
		t.Error("P2101: it is told no more")
	}
}

func TestLogout(t *testing.T) {
	x := newPipe(params())
	tag := do(t, x.c, api.Command{Kind: api.TestReady})
	x.c.Logout()
	late, err := x.c.Do(api.Command{Kind: api.TestReady})
	if err != api.OK || late == tag {
		t.Errorf("P2101: a Do ahead of Closed: %v", err)
	}
	x.run()
	l := x.c.Done()
	if len(l) != 1 || l[0].Tag != tag || !x.c.Closed() || x.c.Open() || !x.s.Closed() || len(x.did) != 1 || x.c.Waiting() != 0 {
		t.Errorf("P2101: Logout: %+v", l)
	}
	y := opened(t)
	y.c.Logout()
	y.c.Logout()
	if y.c.Closed() {
		t.Error("P2101: the answer has not come")
	}
	y.run()
	if !y.c.Closed() {
		t.Error("P2101: Logout where nothing waits")
	}
}

func TestBytesThatAreNone(t *testing.T) {
	x := opened(t)
	do(t, x.c, api.Command{Kind: api.TestReady})
	x.c.In(fill(60, 1))
	if !x.c.Closed() || x.c.Open() || x.c.Waiting() != 0 || len(x.c.Out()) != 0 {
		t.Error("P2101: bytes that are none")
	}
	x.c.In(fill(60, 1))
}

func TestPDUsThatCannotBe(t *testing.T) {
	for i, p := range []pdu.PDU{
		{Op: pdu.DataIn, Tag: 1, Off: 1, Data: fill(1, 1)},
		{Op: pdu.ReadyTo, Tag: 1, Off: 0, Len: 9},
		{Op: pdu.ReadyTo, Tag: 1, Off: 9, Len: 0xFFFFFFFF},
		{Op: pdu.Response, Tag: 1, Status: api.Check, Data: fill(17, 1)},
	} {
		x := opened(t)
		do(t, x.c, api.Command{Kind: api.Write, N: 1, Data: fill(8, 1)})
		x.c.Out()
		b, _ := pdu.Encode(p)
		x.c.In(b)
		if !x.c.Closed() || x.c.Waiting() != 0 || len(x.c.Out()) != 0 || len(x.c.Done()) != 0 {
			t.Errorf("P2101: %d: bytes that are none", i)
		}
	}
	for i, p := range []pdu.PDU{
		{Op: pdu.DataIn, Tag: 9, Off: 1, Data: fill(1, 1)}, {Op: pdu.Response, Tag: 9}, {Op: pdu.LogoutResp}, {Op: pdu.NopIn, Tag: 1}, {Op: pdu.TaskDone, Tag: 1},
	} {
		x := opened(t)
		do(t, x.c, api.Command{Kind: api.Write, N: 1, Data: fill(8, 1)})
		x.toS = x.c.Out()
		b, _ := pdu.Encode(p)
		x.c.In(b)
		x.run()
		if x.c.Closed() || len(x.c.Done()) != 1 {
			t.Errorf("P2101: %d: nothing that it waits for", i)
		}
	}
}

func TestAnswersToALoginThatAreNone(t *testing.T) {
	good := pdu.PDU{Op: pdu.LoginResp, Final: true, Exp: 1, Max: 16}
	for i, turn := range []func(p *pdu.PDU){
		func(p *pdu.PDU) { p.Op = pdu.Response },
		func(p *pdu.PDU) { p.Status = 2 },
		func(p *pdu.PDU) { p.Data = []byte("x") },
		func(p *pdu.PDU) { p.Data = []byte("ImmediateData=?\x00") },
		func(p *pdu.PDU) {},
	} {
		p := good
		turn(&p)
		c := New(params())
		c.Out()
		b, _ := pdu.Encode(p)
		c.In(b)
		if c.Closed() != (i < 4) || c.Open() == c.Closed() {
			t.Errorf("P2101: %d: Closed: %v", i, c.Closed())
		}
	}
}

func TestWhatWasToldStays(t *testing.T) {
	x := opened(t)
	tag := do(t, x.c, api.Command{Kind: api.TestReady})
	x.run()
	x.c.In(fill(60, 1))
	if l := x.c.Done(); len(l) != 1 || l[0].Tag != tag {
		t.Errorf("P2101: %+v", l)
	}
}

// TestAgainstAUnit runs a client over a pipe of a few bytes at a time, and holds it against a unit of its own.
func TestAgainstAUnit(t *testing.T) {
	for seed := int64(0); seed < 30; seed++ {
		r := rand.New(rand.NewSource(seed))
		p := params()
		p.MaxData, p.Burst = 512+r.Intn(600), 512+r.Intn(600)
		p.Immediate = seed%3 > 0
		x := newPipe(p)
		x.step = func(n int) int { return min(n, r.Intn(200)) }
		unit, _ := lu.New(40)
		mine, _ := lu.New(40)
		x.do = func(c api.Command) api.Reply { return unit.Do(0, c) }
		want := map[uint32]api.Reply{}
		tags := []uint32{}
		for range 100 {
			n := r.Intn(33)
			c := api.Command{Kind: 1 + r.Intn(17), At: r.Intn(12), N: n, Key: uint64(r.Intn(2)), New: uint64(r.Intn(2)), Type: r.Intn(7)}
			if c.Kind == api.Write {
				c.Data = fill(8*n, byte(r.Intn(2)))
			}
			if c.Kind == api.Compare {
				c.Data = fill(16*n, byte(r.Intn(2)))
			}
			tag, err := x.c.Do(c)
			if err == api.ErrFull || !p.Immediate { // one at a time, so that the order is that of Do
				x.run()
			}
			if err != api.OK {
				tag = do(t, x.c, c)
			}
			tags = append(tags, tag)
			want[tag] = mine.Do(0, c)
		}
		x.run()
		x.run()
		l := x.c.Done()
		if len(l) != len(tags) {
			t.Fatalf("P2102: %d: %d of %d were told", seed, len(l), len(tags))
		}
		for i, d := range l {
			if d.Tag != tags[i] || !lu.Same(d.Reply, want[d.Tag]) {
				t.Fatalf("P2102: %d: %d: %+v, not %+v", seed, i, d, want[d.Tag])
			}
		}
	}
}

func TestAnyPDUs(t *testing.T) {
	r := rand.New(rand.NewSource(3))
	for range 300 {
		x := opened(t)
		for range 16 {
			do(t, x.c, api.Command{Kind: api.Register})
		}
		x.c.Out()
		for range 60 {
			p := pdu.PDU{
				Op: []int{0x20, 0x21, 0x22, 0x23, 0x25, 0x25, 0x31, 0x3F, 0x26}[r.Intn(9)], Final: r.Intn(2) == 0, Status: r.Intn(3),
				Tag: uint32(r.Intn(20)), Off: uint32(r.Intn(3)), Len: uint32(r.Intn(30)), Data: fill(r.Intn(3), 1),
			}
			if p.Status == 2 && r.Intn(2) == 0 {
				p.Data = sense.Encode(sense.Wrong(5, 6))
			}
			b, _ := pdu.Encode(p)
			x.c.In(b)
			x.c.Out()
			x.c.Abort(uint32(r.Intn(20)))
		}
	}
}

func TestMemory(t *testing.T) {
	x := opened(t)
	data := fill(8, 1)
	do(t, x.c, api.Command{Kind: api.Write, N: 1, Data: data})
	data[0] = 9
	x.run()
	if !bytes.Equal(x.did[0].Data, fill(8, 1)) {
		t.Error("P2: what is handed in is not kept")
	}
	x.did = nil
	do(t, x.c, api.Command{Kind: api.Register, Key: 1, New: 2})
	x.run()
	if !reflect.DeepEqual(x.did, []api.Command{{Kind: api.Register, Key: 1, New: 2}}) {
		t.Errorf("P2102: %+v", x.did)
	}
}
