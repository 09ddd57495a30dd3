package target

import (
	"bytes"
	"math"
	"math/rand"
	"reflect"
	"slices"
	"testing"

	"gemel/api"
	"gemel/cdb"
	"gemel/pdu"
	"gemel/prlist"
	"gemel/sense"
	"gemel/text"
)

const me = "iqn.me"

// bed is a session, and what was done by it.
type bed struct {
	t    *testing.T
	s    *Session
	did  []api.Command
	next api.Reply
	sn   uint32 // the next command's number
}

func newBed(t *testing.T) *bed {
	b := &bed{t: t}
	b.s = New([]string{"iqn.x", me}, func(name string, c api.Command) api.Reply {
		if name != me {
			t.Errorf("P2002: do for %q", name)
		}
		b.did = append(b.did, c)
		return b.next
	})
	return b
}

func encode(t *testing.T, l ...pdu.PDU) []byte {
	t.Helper()
	var out []byte
	for _, p := range l {
		b, err := pdu.Encode(p)
		if err != api.OK {
			t.Fatal(err)
		}
		out = append(out, b...)
	}
	return out
}

func decode(t *testing.T, b []byte) []pdu.PDU {
	t.Helper()
	var l []pdu.PDU
	for len(b) > 0 {
		p, n, err := pdu.Decode(b)
		if err != api.OK {
			t.Fatal(err)
		}
		l = append(l, p)
		b = b[n:]
	}
	return l
}

// send brings PDUs to the session, and holds what it tells against want.
func (b *bed) send(l []pdu.PDU, want ...pdu.PDU) {
	b.t.Helper()
	got := decode(b.t, b.s.In(encode(b.t, l...)))
	if len(got) != len(want) {
		b.t.Fatalf("P2002: %d PDUs are told: %+v", len(got), got)
	}
	for i := range got {
		if !reflect.DeepEqual(got[i], want[i]) {
			b.t.Errorf("P2002: PDU %d:\n%+v, not\n%+v", i, got[i], want[i])
		}
	}
}

func loginData(t *testing.T, l ...string) []byte {
	var pairs []text.Pair
	for i := 0; i+1 < len(l); i += 2 {
		pairs = append(pairs, text.Pair{Key: l[i], Value: l[i+1]})
	}
	b, err := text.Encode(pairs)
	if err != api.OK {
		t.Fatal(err)
	}
	return b
}

// opened tells a session that is open; its first command's number is 10.
func opened(t *testing.T, more ...string) *bed {
	t.Helper()
	b := newBed(t)
	data := loginData(t, append([]string{"InitiatorName", me}, more...)...)
	got := decode(t, b.s.In(encode(t, pdu.PDU{Op: pdu.LoginReq, Tag: 5, Sn: 9, Data: data})))
	if len(got) != 1 || got[0].Status != 0 || b.s.Closed() {
		t.Fatalf("P2001: %+v", got)
	}
	b.sn = 10
	return b
}

// command tells a command's PDU.
func (b *bed) command(tag uint32, c api.Command, data []byte) pdu.PDU {
	b.t.Helper()
	x, err := cdb.Encode(c)
	if err != api.OK {
		b.t.Fatal(err)
	}
	p := pdu.PDU{Op: pdu.Command, Final: true, Tag: tag, Sn: b.sn, Data: data}
	copy(p.Cdb[:], x)
	b.sn++
	return p
}

func (b *bed) response(sn, tag uint32, r api.Reply) pdu.PDU {
	p := pdu.PDU{Op: pdu.Response, Final: true, Status: r.Status, Tag: tag, Sn: sn, Exp: b.sn, Max: b.sn + 15}
	if r.Status == api.Check {
		p.Data = sense.Encode(r)
	}
	return p
}

func (b *bed) ready(tag, off, n uint32) pdu.PDU {
	return pdu.PDU{Op: pdu.ReadyTo, Tag: tag, Exp: b.sn, Max: b.sn + 15, Off: off, Len: n}
}

func (b *bed) reject(p pdu.PDU) pdu.PDU {
	return pdu.PDU{Op: pdu.Reject, Tag: p.Tag, Exp: b.sn, Max: b.sn + 15, Data: encode(b.t, p)[:48]}
}

func TestLogin(t *testing.T) {
	b := newBed(t)
	if b.s.Closed() || b.s.Name() != "" || b.s.Expected() != 0 || b.s.Held() != 0 {
		t.Error("P2001: a new session")
	}
	x := encode(t, pdu.PDU{Op: pdu.LoginReq, Tag: 5, Sn: math.MaxUint32, Data: loginData(t, "InitiatorName", me, "MaxBurstLength", "600", "z", "1")})
	if out := b.s.In(x[:60]); len(out) != 0 || b.s.Held() != 60 {
		t.Errorf("P2001: bytes as they come: %d", b.s.Held())
	}
	got := decode(t, b.s.In(x[60:]))
	want := pdu.PDU{Op: pdu.LoginResp, Final: true, Tag: 5, Sn: 1, Exp: 0, Max: 15, Data: loginData(t, "MaxBurstLength", "600", "z", "NotUnderstood")}
	if len(got) != 1 || !reflect.DeepEqual(got[0], want) || b.s.Name() != me || b.s.Closed() || b.s.Expected() != 0 {
		t.Errorf("P2001: %+v", got)
	}
}

func TestLoginsThatFail(t *testing.T) {
	many := []byte{}
	for i := range 400 { // an answer above MaxData
		many = append(many, []byte{byte('a' + i/26), byte('a' + i%26), '=', 0}...)
	}
	many = append(loginData(t, "InitiatorName", me), many...)
	for i, c := range []struct {
		data   []byte
		status int
	}{
		{nil, 3}, {[]byte("x"), 1}, {loginData(t, "InitiatorName", "me"), 1}, {loginData(t, "InitiatorName", "iqn.no"), 2}, {many, 1},
	} {
		b := newBed(t)
		login := pdu.PDU{Op: pdu.LoginReq, Tag: 6, Sn: 3, Data: c.data}
		b.send([]pdu.PDU{login, login}, pdu.PDU{Op: pdu.LoginResp, Final: true, Status: c.status, Tag: 6, Sn: 1, Exp: 4, Max: 19})
		if !b.s.Closed() || b.s.Name() != "" || b.s.Expected() != 0 || b.s.Held() != 0 {
			t.Errorf("P2001: %d: it is closed", i)
		}
		b.send([]pdu.PDU{login})
	}
}

func TestAheadOfLogin(t *testing.T) {
	for _, op := range []int{pdu.NopOut, pdu.Command, pdu.LogoutReq, pdu.TaskMgmt, pdu.DataOut, pdu.LoginResp, pdu.Reject} {
		b := newBed(t)
		b.send([]pdu.PDU{{Op: op}, {Op: pdu.LoginReq, Data: loginData(t, "InitiatorName", me)}})
		if !b.s.Closed() || b.s.Held() != 0 {
			t.Errorf("P2001: %x: it is closed", op)
		}
	}
}

func TestFaults(t *testing.T) {
	b := opened(t)
	x := encode(t, pdu.PDU{Op: pdu.NopOut, Tag: 1}, pdu.PDU{Op: pdu.NopOut, Tag: 2})
	x[60] ^= 1
	got := decode(t, b.s.In(x))
	if len(got) != 1 || got[0].Op != pdu.NopIn || got[0].Tag != 1 || !b.s.Closed() || b.s.Held() != 0 || b.s.Name() != me || b.s.Expected() != 10 {
		t.Errorf("P2001: what PDUs ahead of a fault were answered is told: %+v", got)
	}
	if out := b.s.In(encode(t, pdu.PDU{Op: pdu.NopOut})); len(out) != 0 {
		t.Error("P2001: closed it tells nothing more")
	}
}

func TestCommandsWithoutData(t *testing.T) {
	b := opened(t)
	p := b.command(77, api.Command{Kind: api.TestReady}, []byte("not looked at"))
	b.send([]pdu.PDU{p}, b.response(2, 77, api.Reply{}))
	b.next = api.Reply{Status: api.Check, Key: 6, Code: 0x2903, Info: 9, Data: []byte("x")}
	p = b.command(78, api.Command{Kind: api.Read, At: 3, N: 2}, nil)
	b.send([]pdu.PDU{p}, b.response(3, 78, b.next))
	b.next = api.Reply{Status: api.Conflict, Data: []byte("x")}
	p = b.command(79, api.Command{Kind: api.Write, At: 3, N: 0, Force: true}, nil)
	b.send([]pdu.PDU{p}, b.response(4, 79, api.Reply{Status: api.Conflict}))
	want := []api.Command{{Kind: api.TestReady}, {Kind: api.Read, At: 3, N: 2}, {Kind: api.Write, At: 3, Force: true}}
	if !reflect.DeepEqual(b.did, want) || b.s.Expected() != 13 {
		t.Errorf("P2002: %+v", b.did)
	}
}

func TestCommandsThatAreNone(t *testing.T) {
	b := opened(t)
	p := b.command(7, api.Command{Kind: api.TestReady}, nil)
	p.Cdb[0] = 0xEE
	b.send([]pdu.PDU{p}, b.response(2, 7, sense.Wrong(api.Illegal, api.CodeOp)))
	p = b.command(7, api.Command{Kind: api.TestReady}, nil)
	p.Cdb[15] = 1
	b.send([]pdu.PDU{p}, b.response(3, 7, sense.Wrong(api.Illegal, api.CodeField)))
	if len(b.did) != 0 {
		t.Error("P2002: it was done")
	}
}

func TestNumbersOfCommands(t *testing.T) {
	b := opened(t)
	for _, sn := range []uint32{9, 11, 0} {
		p := b.command(1, api.Command{Kind: api.TestReady}, nil)
		b.sn = 10
		p.Sn = sn
		b.send([]pdu.PDU{p})
	}
	if len(b.did) != 0 || b.s.Expected() != 10 {
		t.Error("P2002: another number is left")
	}
	p := b.command(1, api.Command{Kind: api.TestReady}, nil)
	b.send([]pdu.PDU{p, p}, b.response(2, 1, api.Reply{}))
}

func TestDataThatIsTold(t *testing.T) {
	b := opened(t, "MaxRecvDataSegmentLength", "512")
	data := bytes.Repeat([]byte("abcdefgh"), 160)
	b.next = sense.Good(data)
	p := b.command(5, api.Command{Kind: api.Inquiry}, nil)
	var want []pdu.PDU
	for off := 0; off < 1280; off += 512 {
		end := min(off+512, 1280)
		want = append(want, pdu.PDU{Op: pdu.DataIn, Final: end == 1280, Tag: 5, Exp: 11, Max: 26, Off: uint32(off), Data: data[off:end]})
	}
	last := b.response(2, 5, api.Reply{})
	last.Len = 1280
	b.send([]pdu.PDU{p}, append(want, last)...)
	b.next = sense.Good(data[:512])
	p = b.command(6, api.Command{Kind: api.Inquiry}, nil)
	last = b.response(3, 6, api.Reply{})
	last.Len = 512
	b.send([]pdu.PDU{p}, pdu.PDU{Op: pdu.DataIn, Final: true, Tag: 6, Exp: 12, Max: 27, Data: data[:512]}, last)
}

func fill(n int) []byte { return bytes.Repeat([]byte{7}, n) }

func TestImmediateData(t *testing.T) {
	b := opened(t)
	w := api.Command{Kind: api.Write, N: 2}
	b.send([]pdu.PDU{b.command(1, w, fill(16))}, b.response(2, 1, api.Reply{}))
	b.send([]pdu.PDU{b.command(2, w, fill(17))}, b.response(3, 2, sense.Wrong(api.Illegal, api.CodeField)))
	w.Data = fill(16)
	if !reflect.DeepEqual(b.did, []api.Command{w}) {
		t.Errorf("P2002: %+v", b.did)
	}
	b = opened(t, "ImmediateData", "No")
	b.send([]pdu.PDU{b.command(1, w, fill(1))}, b.response(2, 1, sense.Wrong(api.Illegal, api.CodeField)))
	b.send([]pdu.PDU{b.command(2, w, nil)}, b.ready(2, 0, 16))
	b.send([]pdu.PDU{b.command(3, api.Command{Kind: api.TestReady}, fill(1))}, b.response(3, 3, api.Reply{}))
}

func TestListsOfKeys(t *testing.T) {
	b := opened(t)
	c := api.Command{Kind: api.Preempt, Type: 5}
	b.send([]pdu.PDU{b.command(1, c, prlist.Encode(8, 9))}, b.response(2, 1, api.Reply{}))
	bad := prlist.Encode(8, 9)
	bad[23] = 1
	b.send([]pdu.PDU{b.command(2, c, bad)}, b.response(3, 2, sense.Wrong(api.Illegal, api.CodeParam)))
	c.Key, c.New = 8, 9
	if !reflect.DeepEqual(b.did, []api.Command{c}) {
		t.Errorf("P2002: %+v", b.did)
	}
	for i, kind := range []int{api.Register, api.RegisterNew, api.Reserve, api.Release, api.Clear} {
		b.did = nil
		b.send([]pdu.PDU{b.command(9, api.Command{Kind: kind}, prlist.Encode(8, 0))}, b.response(uint32(4+i), 9, api.Reply{}))
		if !reflect.DeepEqual(b.did, []api.Command{{Kind: kind, Key: 8}}) {
			t.Errorf("P2002: %+v", b.did)
		}
	}
}

func TestDataThatIsAskedFor(t *testing.T) {
	b := opened(t)
	c := api.Command{Kind: api.Compare, N: 2}
	data := []byte("0123456789abcdefghijklmnopqrstuv")
	b.send([]pdu.PDU{b.command(4, c, data[:3])}, b.ready(4, 3, 29))
	if b.s.Held() != 3 {
		t.Errorf("P2002: %d bytes are kept", b.s.Held())
	}
	out := func(tag, off uint32, data []byte, final bool) pdu.PDU {
		return pdu.PDU{Op: pdu.DataOut, Final: final, Tag: tag, Off: off, Data: data}
	}
	for _, p := range []pdu.PDU{
		out(5, 3, data[3:], true), out(4, 2, data[2:], true), out(4, 4, data[4:], true), out(4, 3, fill(30), true), out(4, 3, nil, false),
	} {
		want := []pdu.PDU{b.reject(p)}
		if len(p.Data) == 0 {
			want = nil
		}
		b.send([]pdu.PDU{p}, want...)
	}
	b.send([]pdu.PDU{out(4, 3, data[3:10], false)})
	b.send([]pdu.PDU{out(4, 10, data[10:12], true)}, b.ready(4, 12, 20))
	b.send([]pdu.PDU{out(4, 12, nil, true)}, b.ready(4, 12, 20))
	if b.s.Held() != 12 || len(b.did) != 0 {
		t.Errorf("P2002: %d bytes are kept", b.s.Held())
	}
	last := out(4, 12, data[12:], false)
	b.send([]pdu.PDU{last, last}, b.response(2, 4, api.Reply{}), b.reject(last))
	c.Data = data
	if !reflect.DeepEqual(b.did, []api.Command{c}) || b.s.Held() != 0 {
		t.Errorf("P2002: %+v", b.did)
	}
}

func TestHowManyWait(t *testing.T) {
	b := opened(t)
	w := api.Command{Kind: api.Write, N: 32}
	for i := range uint32(16) {
		b.send([]pdu.PDU{b.command(i, w, fill(255))}, b.ready(i, 255, 1))
	}
	if b.s.Held() != 16*255 {
		t.Errorf("P2002: %d bytes are kept", b.s.Held())
	}
	b.send([]pdu.PDU{b.command(3, w, nil)}, b.response(2, 3, sense.Wrong(api.Illegal, api.CodeField)))
	b.send([]pdu.PDU{b.command(16, w, nil)}, b.response(3, 16, api.Reply{Status: api.Busy}))
	b.send([]pdu.PDU{b.command(17, w, fill(256))}, b.response(4, 17, api.Reply{}))
	b.send([]pdu.PDU{{Op: pdu.DataOut, Tag: 3, Off: 255, Data: fill(1)}}, b.response(5, 3, api.Reply{}))
	b.send([]pdu.PDU{b.command(16, w, nil)}, b.ready(16, 0, 256))
	if len(b.did) != 2 {
		t.Errorf("P2002: %d were done", len(b.did))
	}
}

func TestTaskManagement(t *testing.T) {
	b := opened(t)
	w := api.Command{Kind: api.Write, N: 1}
	for i := range uint32(3) {
		b.send([]pdu.PDU{b.command(i, w, fill(1))}, b.ready(i, 1, 7))
	}
	sn := uint32(2)
	manage := func(flags int, off uint32, status int) {
		t.Helper()
		b.send([]pdu.PDU{{Op: pdu.TaskMgmt, Flags: flags, Tag: 50, Off: off}},
			pdu.PDU{Op: pdu.TaskDone, Tag: 50, Status: status, Sn: sn, Exp: b.sn, Max: b.sn + 15})
		sn++
	}
	manage(1, 9, 1)
	manage(1, 1, 0)
	manage(1, 1, 1)
	manage(0, 0, 255)
	manage(3, 0, 255)
	if b.s.Held() != 2 {
		t.Errorf("P2002: %d", b.s.Held())
	}
	manage(2, 0, 0)
	if b.s.Held() != 0 || len(b.did) != 0 {
		t.Error("P2002: all that wait are left")
	}
	b.send([]pdu.PDU{b.command(1, w, fill(1))}, b.ready(1, 1, 7))
	b.next = api.Reply{Status: api.Busy}
	manage(5, 0, 0)
	if b.s.Held() != 0 || !reflect.DeepEqual(b.did, []api.Command{{Kind: api.Reset}}) {
		t.Errorf("P2002: %+v", b.did)
	}
}

func TestOthers(t *testing.T) {
	b := opened(t)
	b.send([]pdu.PDU{{Op: pdu.NopOut, Tag: 3, Sn: 99, Data: []byte("ping")}}, pdu.PDU{Op: pdu.NopIn, Tag: 3, Sn: 2, Exp: 10, Max: 25, Data: []byte("ping")})
	for _, op := range []int{pdu.LoginReq, pdu.NopIn, pdu.Response, pdu.TaskDone, pdu.LoginResp, pdu.DataIn, pdu.LogoutResp, pdu.ReadyTo, pdu.Reject} {
		p := pdu.PDU{Op: op, Tag: 8, Final: true, Flags: 5, Status: 9, Len: 7, Data: []byte("abc")}
		b.send([]pdu.PDU{p}, b.reject(p))
	}
	w := api.Command{Kind: api.Write, N: 1}
	b.send([]pdu.PDU{b.command(1, w, fill(1))}, b.ready(1, 1, 7))
	b.send([]pdu.PDU{{Op: pdu.LogoutReq, Tag: 4}, {Op: pdu.NopOut}}, pdu.PDU{Op: pdu.LogoutResp, Tag: 4, Sn: 3, Exp: 11, Max: 26})
	if !b.s.Closed() || b.s.Held() != 0 || b.s.Name() != me || b.s.Expected() != 11 {
		t.Error("P2002: it is closed")
	}
	b.send([]pdu.PDU{{Op: pdu.NopOut}})
}

func TestTheListOfNamesIsItsOwn(t *testing.T) {
	acl := []string{me}
	s := New(acl, func(string, api.Command) api.Reply { return api.Reply{} })
	acl[0] = "iqn.other"
	s.In(encode(t, pdu.PDU{Op: pdu.LoginReq, Data: loginData(t, "InitiatorName", me)}))
	if s.Name() != me {
		t.Error("P2: what is handed in is not kept")
	}
}

func TestAnyBytes(t *testing.T) {
	r := rand.New(rand.NewSource(1))
	for range 300 {
		b := newBed(t)
		if r.Intn(4) > 0 {
			b = opened(t, "ImmediateData", []string{"Yes", "No"}[r.Intn(2)])
		}
		b.next = sense.Good(fill(r.Intn(20)))
		for range 100 {
			p := pdu.PDU{
				Op: []int{0, 1, 1, 1, 2, 5, 5, 0x21}[r.Intn(8)], Final: r.Intn(2) == 0, Flags: r.Intn(6),
				Tag: uint32(r.Intn(20)), Sn: b.s.Expected(), Off: uint32(r.Intn(9)), Data: fill(r.Intn(9)),
			}
			x, _ := cdb.Encode(api.Command{Kind: 1 + r.Intn(17), N: r.Intn(3)})
			copy(p.Cdb[:], x)
			out := b.s.In(encode(t, p))
			for len(out) > 0 {
				_, n, err := pdu.Decode(out)
				if err != api.OK {
					t.Fatal("P2002: what is told is no PDU")
				}
				out = out[n:]
			}
			if b.s.Held() > 60+4096+16*512 {
				t.Fatalf("P2002: %d bytes are kept", b.s.Held())
			}
		}
		b.s.In(slices.Repeat([]byte{1}, 60))
		if !b.s.Closed() {
			t.Fatal("P2001: a fault")
		}
	}
}
