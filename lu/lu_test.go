package lu

import (
	"bytes"
	"math"
	"math/rand"
	"slices"
	"testing"

	"gemel/api"
	"gemel/prlist"
	"gemel/sense"
)

func fresh(t *testing.T, blocks int) *Unit {
	t.Helper()
	u, err := New(blocks)
	if err != api.OK || u.Blocks() != blocks {
		t.Fatalf("P1701: New(%d): %v", blocks, err)
	}
	return u
}

func expect(t *testing.T, what string, got, want api.Reply) {
	t.Helper()
	if !Same(got, want) {
		t.Errorf("%s: %+v, not %+v", what, got, want)
	}
}

func fill(blocks int, x byte) []byte { return bytes.Repeat([]byte{x}, 8*blocks) }

var good, busy, conflict = api.Reply{}, api.Reply{Status: 8}, api.Reply{Status: 24}

func TestNewUnit(t *testing.T) {
	for _, n := range []int{0, -1, 1025} {
		if u, err := New(n); err != api.ErrArg || u != nil {
			t.Errorf("P1701: New(%d): %v", n, err)
		}
	}
	fresh(t, 1024)
}

func TestWhatIsNone(t *testing.T) {
	u := fresh(t, 4)
	u.Do(0, api.Command{Kind: api.Reset})
	for _, h := range []int{-1, 8, math.MaxInt, math.MinInt} {
		expect(t, "P1701", u.Do(h, api.Command{Kind: api.TestReady}), illegal(api.CodeOp))
		if len(u.Pending(h)) != 0 {
			t.Errorf("P1701: Pending(%d)", h)
		}
	}
	for _, k := range []int{0, 19, -1, math.MaxInt} {
		expect(t, "P1701", u.Do(0, api.Command{Kind: k}), illegal(api.CodeOp))
	}
	if !slices.Equal(u.Pending(0), []int{api.CodeReset}) {
		t.Error("P1701: an attention waits on")
	}
}

func TestKinds(t *testing.T) {
	u := fresh(t, 40)
	three := append(append(fill(1, 1), fill(1, 2)...), fill(1, 3)...)
	for i, c := range []struct {
		c    api.Command
		want api.Reply
	}{
		{api.Command{Kind: api.TestReady, At: -1, N: 99}, good},
		{api.Command{Kind: api.Inquiry}, sense.Good(sense.Inquiry())},
		{api.Command{Kind: api.Capacity}, sense.Good(sense.Capacity(40))},
		{api.Command{Kind: api.Sense}, sense.Good(sense.Encode(good))},
		{api.Command{Kind: api.Write, At: 2, N: 3, Data: three, Force: true}, good},
		{api.Command{Kind: api.Read, At: 1, N: 3}, sense.Good(append(fill(1, 0), three[:16]...))},
		{api.Command{Kind: api.Read, At: 40}, good},
		{api.Command{Kind: api.Write, At: 2, N: 3, Data: three[:23]}, illegal(api.CodeField)},
		{api.Command{Kind: api.Write, At: 2, N: 2, Data: three}, illegal(api.CodeField)},
		{api.Command{Kind: api.Unmap, At: 3, N: 1}, good},
		{api.Command{Kind: api.SyncCache, At: 8, N: 32}, good},
		{api.Command{Kind: api.Read, At: 2, N: 3}, sense.Good(append(append(fill(1, 1), fill(1, 0)...), fill(1, 3)...))},
		{api.Command{Kind: api.Compare, At: 4, N: 1, Data: append(fill(1, 3), fill(1, 4)...)}, good},
		{api.Command{Kind: api.Compare, At: 3, N: 2, Data: append(append(fill(1, 0), 4, 4, 4, 5, 4, 4, 4, 4), fill(2, 9)...)},
			api.Reply{Status: 2, Key: 14, Code: 0x1D00, Info: 11}},
		{api.Command{Kind: api.Compare, At: 4, N: 1, Data: fill(2, 9)}, api.Reply{Status: 2, Key: 14, Code: 0x1D00}},
		{api.Command{Kind: api.Compare, At: 4, N: 1, Data: fill(1, 4)}, illegal(api.CodeField)},
		{api.Command{Kind: api.Compare, At: 4, N: 1, Data: fill(4, 4)}, illegal(api.CodeField)},
		{api.Command{Kind: api.Read, At: 4, N: 1}, sense.Good(fill(1, 4))},
	} {
		if got := u.Do(3, c.c); !Same(got, c.want) {
			t.Errorf("P1701: %d: %+v", i, got)
		}
	}
}

func TestBlocksThatAreNotThere(t *testing.T) {
	u := fresh(t, 40)
	for _, kind := range []int{api.Read, api.Write, api.SyncCache, api.Unmap, api.Compare} {
		for _, c := range [][2]int{{-1, 1}, {0, -1}, {40, 1}, {0, 33}, {39, 2}, {41, 0}, {math.MaxInt, math.MaxInt}, {math.MinInt, 1}} {
			expect(t, "P1701", u.Do(0, api.Command{Kind: kind, At: c[0], N: c[1], Data: fill(1, 1)}), illegal(api.CodeRange))
		}
	}
}

func TestReservations(t *testing.T) {
	u := fresh(t, 4)
	do := func(host int, c api.Command, want api.Reply) {
		t.Helper()
		expect(t, "P1701", u.Do(host, c), want)
	}
	do(0, api.Command{Kind: api.Register, New: 10}, good)
	do(0, api.Command{Kind: api.Register, Key: 9, New: 11}, conflict)
	do(0, api.Command{Kind: api.RegisterNew, Key: 9, New: 11}, good)
	do(1, api.Command{Kind: api.Register, New: 20}, good)
	do(1, api.Command{Kind: api.ReadResv}, sense.Good(prlist.Holder(3, 0, 0)))
	do(1, api.Command{Kind: api.Reserve, Key: 20, Type: 5}, good)
	do(0, api.Command{Kind: api.ReadKeys}, sense.Good(prlist.Keys(3, []uint64{11, 20})))
	do(7, api.Command{Kind: api.ReadResv}, sense.Good(prlist.Holder(3, 20, 5)))
	do(0, api.Command{Kind: api.Write, N: 1, Data: fill(1, 5)}, good)
	do(7, api.Command{Kind: api.Write, N: 99}, conflict)
	do(7, api.Command{Kind: api.Read, N: 1}, sense.Good(fill(1, 5)))
	do(1, api.Command{Kind: api.Release, Key: 20, Type: 5}, good)
	do(1, api.Command{Kind: api.Reserve, Key: 20, Type: 2}, illegal(api.CodeField))
	do(0, api.Command{Kind: api.TestReady}, sense.Wrong(api.Attention, api.CodeRelease))
	do(0, api.Command{Kind: api.Preempt, Key: 11, New: 20, Type: 1}, good)
	do(1, api.Command{Kind: api.Clear, Key: 20}, sense.Wrong(api.Attention, api.CodeRegs))
	do(1, api.Command{Kind: api.Register, New: 21}, good)
	do(0, api.Command{Kind: api.Clear, Key: 11}, good)
	do(1, api.Command{Kind: api.TestReady}, sense.Wrong(api.Attention, api.CodePreempt))
	do(1, api.Command{Kind: api.ReadKeys}, sense.Good(prlist.Keys(6, nil)))
}

func TestAttentions(t *testing.T) {
	u := fresh(t, 4)
	u.Do(0, api.Command{Kind: api.Register, New: 1})
	u.Do(1, api.Command{Kind: api.Register, New: 2})
	u.Do(0, api.Command{Kind: api.Clear, Key: 1})
	u.Do(2, api.Command{Kind: api.Reset})
	for h := range 8 {
		want := []int{api.CodeReset}
		if h == 1 {
			want = []int{api.CodePreempt, api.CodeReset}
		}
		if l := u.Pending(h); !slices.Equal(l, want) {
			t.Errorf("P1701: host %d: %v", h, l)
		}
	}
	expect(t, "P1701: a Reset, too", u.Do(3, api.Command{Kind: api.Reset}), sense.Wrong(api.Attention, api.CodeReset))
	expect(t, "P1701", u.Do(3, api.Command{Kind: api.Reset}), good)
	if l := u.Pending(1); !slices.Equal(l, []int{api.CodePreempt, api.CodeReset}) {
		t.Errorf("P1701: one of the same code is not put twice: %v", l)
	}
	expect(t, "P1701: Inquiry", u.Do(1, api.Command{Kind: api.Inquiry}), sense.Good(sense.Inquiry()))
	expect(t, "P1701: Sense", u.Do(1, api.Command{Kind: api.Sense}), sense.Good(sense.Encode(sense.Wrong(6, api.CodePreempt))))
	u.Pending(1)[0] = 9
	expect(t, "P1701: nothing else is done", u.Do(1, api.Command{Kind: api.Write, N: 1, Data: fill(1, 7)}), sense.Wrong(6, api.CodeReset))
	expect(t, "P1701", u.Do(1, api.Command{Kind: api.Read, N: 1}), sense.Good(fill(1, 0)))
	expect(t, "P1701", u.Do(1, api.Command{Kind: api.Sense}), sense.Good(sense.Encode(good)))
}

func TestAttentionIsAheadOfConflict(t *testing.T) {
	u := fresh(t, 4)
	u.Do(0, api.Command{Kind: api.Register, New: 1})
	u.Do(0, api.Command{Kind: api.Reserve, Key: 1, Type: 3})
	u.Do(0, api.Command{Kind: api.Reset})
	expect(t, "P1701", u.Do(1, api.Command{Kind: api.Read, N: 1}), sense.Wrong(6, api.CodeReset))
	expect(t, "P1701", u.Do(1, api.Command{Kind: api.Read, N: 1}), conflict)
	expect(t, "P1701: ahead of what it is", u.Do(1, api.Command{Kind: api.Read, N: -1}), conflict)
}

// write tells a command whose being done can be seen.
func write(at int, x byte) api.Command {
	return api.Command{Kind: api.Write, At: at, N: 1, Data: fill(1, x)}
}

func once(t *testing.T, u *Unit, host int, id, floor uint64, c api.Command, want api.Reply, fresh bool) {
	t.Helper()
	before := u.Encode()
	r, f := u.Once(host, id, floor, c)
	if !Same(r, want) || f != fresh {
		t.Errorf("P1702: %d, %d: %+v, %v", id, floor, r, f)
	}
	if r.Status == api.Busy && !bytes.Equal(u.Encode(), before) {
		t.Errorf("P1702: %d, %d: Busy, and something was changed", id, floor)
	}
}

func TestOnce(t *testing.T) {
	u := fresh(t, 4)
	read := api.Command{Kind: api.Read, N: 1}
	once(t, u, 0, 0, 0, write(0, 9), busy, false)
	once(t, u, 8, 1, 0, write(0, 9), busy, false)
	once(t, u, -1, 1, 0, write(0, 9), busy, false)
	once(t, u, 0, 1, 1, read, sense.Good(fill(1, 0)), true)
	once(t, u, 0, 2, 1, write(0, 1), good, true)
	once(t, u, 0, 1, 1, read, sense.Good(fill(1, 0)), false)
	once(t, u, 0, 2, 1, write(0, 2), good, false)
	once(t, u, 1, 1, 1, read, sense.Good(fill(1, 1)), true)
	once(t, u, 0, 4, 1, read, sense.Good(fill(1, 1)), true)
	once(t, u, 0, 3, 1, write(0, 3), good, true)
	once(t, u, 0, 5, 1, write(0, 4), busy, false)
	once(t, u, 0, 5, 2, write(0, 4), good, true)
	once(t, u, 0, 1, 0, read, busy, false) // forgotten, and below the greatest floor
	once(t, u, 0, 4, 0, read, sense.Good(fill(1, 1)), false)
}

func TestFloors(t *testing.T) {
	u := fresh(t, 4)
	once(t, u, 0, 5, math.MaxUint64, write(0, 1), good, true) // as 5
	once(t, u, 0, 4, 0, write(0, 2), busy, false)
	once(t, u, 0, 6, 0, write(0, 2), good, true)
	once(t, u, 0, 6, 6, write(0, 3), good, false) // one that was done: its floor counts
	once(t, u, 0, 5, 0, write(0, 3), busy, false)
	for id := uint64(7); id < 10; id++ {
		once(t, u, 0, id, 0, write(0, 3), good, true)
	}
	once(t, u, 0, 10, 6, write(0, 4), busy, false) // Busy: its floor counts not
	once(t, u, 0, 6, 0, write(0, 4), good, false)
	once(t, u, 0, 10, 7, write(0, 5), good, true)
	once(t, u, 0, 6, 0, write(0, 4), busy, false)
	once(t, u, 0, math.MaxUint64, math.MaxUint64, write(0, 6), good, true)
	once(t, u, 0, 10, 0, write(0, 4), busy, false)
	expect(t, "P1702", u.Do(0, api.Command{Kind: api.Read, N: 1}), sense.Good(fill(1, 6)))
}

func TestAReplyThatWasHadIsKept(t *testing.T) {
	u := fresh(t, 4)
	read := api.Command{Kind: api.Read, N: 1}
	r, _ := u.Once(0, 1, 1, read)
	r.Data[0] = 9
	r, _ = u.Once(0, 1, 1, read)
	r.Data[0] = 9
	once(t, u, 0, 1, 1, read, sense.Good(fill(1, 0)), false)
	c := write(0, 3)
	u.Do(0, c)
	c.Data[0] = 9
	expect(t, "P2", u.Do(0, read), sense.Good(fill(1, 3)))
}

func TestSame(t *testing.T) {
	a := api.Reply{Status: 2, Key: 3, Code: 4, Info: 5, Data: []byte{6}}
	for i, b := range []api.Reply{
		{Status: 0, Key: 3, Code: 4, Info: 5, Data: []byte{6}}, {Status: 2, Key: 0, Code: 4, Info: 5, Data: []byte{6}},
		{Status: 2, Key: 3, Code: 0, Info: 5, Data: []byte{6}}, {Status: 2, Key: 3, Code: 4, Info: 0, Data: []byte{6}},
		{Status: 2, Key: 3, Code: 4, Info: 5, Data: []byte{7}}, {Status: 2, Key: 3, Code: 4, Info: 5},
	} {
		if Same(a, b) || Same(b, a) || !Same(b, b) {
			t.Errorf("P1701: %d", i)
		}
	}
	if !Same(api.Reply{Data: []byte{}}, api.Reply{}) {
		t.Error("P2: no list and an empty one are the same")
	}
}

// some tells a command of any kind.
func some(r *rand.Rand) api.Command {
	n := r.Intn(3)
	return api.Command{
		Kind: 1 + r.Intn(18), At: r.Intn(8), N: n, Data: fill(r.Intn(2)*n+n, byte(r.Intn(2))),
		Key: uint64(r.Intn(3)), New: uint64(r.Intn(3)), Type: r.Intn(7), Force: r.Intn(2) == 0,
	}
}

func TestTwinAndBackAgain(t *testing.T) {
	r := rand.New(rand.NewSource(12))
	u := fresh(t, 10)
	for i := 0; i < 4000; i++ {
		b := u.Encode()
		back, err := Decode(b)
		if err != api.OK {
			t.Fatalf("P1703: %v", err)
		}
		twin := u.Twin()
		host, id, c := r.Intn(8), uint64(i/40+r.Intn(5)), some(r)
		floor := id - min(id, uint64(r.Intn(5)))
		r1, f1 := back.Once(host, id, floor, c)
		r2, f2 := twin.Once(host, id, floor, c)
		if !bytes.Equal(u.Encode(), b) {
			t.Fatal("P1703: a Twin is apart")
		}
		r3, f3 := u.Once(host, id, floor, c)
		if !Same(r1, r3) || !Same(r2, r3) || f1 != f3 || f2 != f3 || !bytes.Equal(u.Encode(), back.Encode()) || !bytes.Equal(u.Encode(), twin.Encode()) {
			t.Fatalf("P1703: %d: %+v, %+v, %+v", i, r1, r2, r3)
		}
		if !slices.Equal(u.Pending(host), back.Pending(host)) {
			t.Fatal("P1703: Pending")
		}
	}
}

func TestDecodeOfAnyBytes(t *testing.T) {
	u := fresh(t, 10)
	r := rand.New(rand.NewSource(13))
	for i := range 200 {
		u.Once(r.Intn(8), uint64(i+1), 0, some(r))
	}
	b := u.Encode()
	for n := range b {
		if u, err := Decode(b[:n]); err != api.ErrForm || u != nil {
			t.Fatalf("P1703: %d of %d bytes: %v", n, len(b), err)
		}
	}
	if _, err := Decode(append(slices.Clone(b), 0)); err != api.ErrForm {
		t.Errorf("P1703: one more: %v", err)
	}
	for i := 0; i < 3000; i++ {
		x := slices.Clone(b)
		for range 1 + r.Intn(4) {
			x[r.Intn(len(x))] = byte(r.Intn(256))
		}
		u, err := Decode(x)
		if err != api.OK {
			continue
		}
		for range 5 {
			u.Once(r.Intn(8), uint64(r.Intn(300)), 0, some(r))
		}
	}
}

func TestTheGreatestUnitIsNoLongerThanASnapshot(t *testing.T) {
	u := fresh(t, 1024)
	for at := 0; at < 1024; at += 32 {
		u.Do(0, api.Command{Kind: api.Write, At: at, N: 32, Data: fill(32, 1)})
	}
	for h := range 8 {
		for id := range uint64(4) {
			u.Once(h, id+1, 0, api.Command{Kind: api.Read, N: 32})
		}
	}
	if n := len(u.Encode()); n > 24576 {
		t.Errorf("P2201: %d bytes", n)
	}
}
