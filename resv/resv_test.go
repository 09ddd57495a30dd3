package resv

import (
	"bytes"
	"math"
	"math/rand"
	"reflect"
	"slices"
	"testing"

	"gemel/api"
)

func check(t *testing.T, what string, r api.Reply, l []Notice, want api.Reply, notices ...Notice) {
	t.Helper()
	if !reflect.DeepEqual(r, want) || !slices.Equal(l, notices) {
		t.Errorf("P1502: %s: %+v, %v", what, r, l)
	}
}

// table tells one of hosts 0, 1, 2, 5 with keys 10, 11, 12, 11.
func table(t *testing.T) *Table {
	t.Helper()
	x := New()
	for i, host := range []int{0, 1, 2, 5} {
		r, l := x.Register(host, 0, []uint64{10, 11, 12, 11}[i], false)
		check(t, "Register", r, l, good())
	}
	return x
}

// held tells that one, with host 0 holding the reservation.
func held(t *testing.T, typ int) *Table {
	t.Helper()
	x := table(t)
	check(t, "Reserve", x.Reserve(0, 10, typ), nil, good())
	return x
}

func holder(x *Table) [2]int {
	h, typ := x.Holder()
	return [2]int{h, typ}
}

func TestNewTable(t *testing.T) {
	x := New()
	if holder(x) != [2]int{-1, 0} || len(x.Keys()) != 0 || x.Key(3) != 0 || x.Generation() != 0 {
		t.Error("P1501: a new table")
	}
	x = table(t)
	if !slices.Equal(x.Keys(), []uint64{10, 11, 12, 11}) || x.Key(5) != 11 || x.Key(3) != 0 || x.Key(-1) != 0 || x.Key(8) != 0 || x.Generation() != 4 {
		t.Errorf("P1501: %v", x.Keys())
	}
}

func TestHostsThatAreNone(t *testing.T) {
	for _, h := range []int{-1, 8, math.MaxInt, math.MinInt} {
		x := held(t, api.ExclAccess)
		before := x.Encode()
		bad := wrong(api.CodeField)
		r, l := x.Register(h, 0, 0, true)
		check(t, "Register", r, l, bad)
		check(t, "Reserve", x.Reserve(h, 0, 99), nil, bad)
		r, l = x.Release(h, 0, 99)
		check(t, "Release", r, l, bad)
		r, l = x.Clear(h, 0)
		check(t, "Clear", r, l, bad)
		r, l = x.Preempt(h, 0, 0, 99)
		check(t, "Preempt", r, l, bad)
		if x.Allows(h, api.Read) || !x.Allows(h, api.Inquiry) || !New().Allows(h, api.Write) {
			t.Errorf("P1501: Allows(%d)", h)
		}
		if !bytes.Equal(x.Encode(), before) {
			t.Error("P1501: something was changed")
		}
	}
}

func TestRegister(t *testing.T) {
	x := table(t)
	r, l := x.Register(0, 9, 20, false)
	check(t, "a wrong key", r, l, conflict())
	r, l = x.Register(3, 9, 20, false)
	check(t, "not registered, a key", r, l, conflict())
	if x.Generation() != 4 || x.Key(0) != 10 {
		t.Error("P1502: nothing is changed")
	}
	r, l = x.Register(0, 10, 20, false)
	check(t, "another key", r, l, good())
	r, l = x.Register(0, 9, 21, true)
	check(t, "whatever key", r, l, good())
	r, l = x.Register(7, 0, 0, false)
	check(t, "it may not have been", r, l, good())
	r, l = x.Register(1, 11, 0, false)
	check(t, "no more", r, l, good())
	if x.Generation() != 8 || x.Key(0) != 21 || x.Key(1) != 0 {
		t.Errorf("P1502: %d", x.Generation())
	}
}

func TestRegisterOfTheHolder(t *testing.T) {
	for _, typ := range []int{1, 3, 5, 6} {
		x := held(t, typ)
		r, l := x.Register(0, 10, 30, false)
		check(t, "another key", r, l, good())
		if holder(x) != [2]int{0, typ} {
			t.Error("P1502: it holds still")
		}
		r, l = x.Register(0, 30, 0, false)
		if typ < 5 {
			check(t, "no more", r, l, good())
		} else {
			check(t, "no more", r, l, good(), Notice{1, api.CodeRelease}, Notice{2, api.CodeRelease}, Notice{5, api.CodeRelease})
		}
		if holder(x) != [2]int{-1, 0} {
			t.Error("P1502: the reservation is gone")
		}
	}
	x := held(t, 5)
	r, l := x.Register(1, 11, 0, false)
	check(t, "of one that holds it not", r, l, good())
	if holder(x) != [2]int{0, 5} {
		t.Error("P1502: it stays")
	}
}

func TestReserve(t *testing.T) {
	x := table(t)
	check(t, "not registered", x.Reserve(3, 0, 1), nil, conflict())
	check(t, "a wrong key", x.Reserve(0, 11, 99), nil, conflict())
	for _, typ := range []int{0, 2, 4, 7, -1, 257} {
		check(t, "a type that is none", x.Reserve(0, 10, typ), nil, wrong(api.CodeField))
	}
	check(t, "Reserve", x.Reserve(0, 10, 1), nil, good())
	check(t, "again", x.Reserve(0, 10, 1), nil, good())
	check(t, "another type", x.Reserve(0, 10, 3), nil, conflict())
	check(t, "another host", x.Reserve(1, 11, 1), nil, conflict())
	check(t, "a type that is none", x.Reserve(1, 11, 2), nil, wrong(api.CodeField))
	if holder(x) != [2]int{0, 1} || x.Generation() != 4 {
		t.Error("P1502: Reserve")
	}
}

func TestRelease(t *testing.T) {
	for _, typ := range []int{1, 3, 5, 6} {
		x := held(t, typ)
		r, l := x.Release(3, 0, typ)
		check(t, "not registered", r, l, conflict())
		r, l = x.Release(0, 11, 0)
		check(t, "a wrong key", r, l, conflict())
		r, l = x.Release(0, 10, 2)
		check(t, "a type that is none", r, l, wrong(api.CodeField))
		r, l = x.Release(1, 11, typ)
		check(t, "not the holder", r, l, good())
		r, l = x.Release(0, 10, map[int]int{1: 3, 3: 1, 5: 6, 6: 5}[typ])
		check(t, "of another type", r, l, wrong(0x2604))
		if holder(x) != [2]int{0, typ} {
			t.Error("P1502: nothing is changed")
		}
		r, l = x.Release(0, 10, typ)
		if typ < 5 {
			check(t, "Release", r, l, good())
		} else {
			check(t, "Release", r, l, good(), Notice{1, api.CodeRelease}, Notice{2, api.CodeRelease}, Notice{5, api.CodeRelease})
		}
		r, l = x.Release(0, 10, typ)
		check(t, "nobody holds it", r, l, good())
		if holder(x) != [2]int{-1, 0} || x.Generation() != 4 {
			t.Error("P1502: Release")
		}
	}
}

func TestClear(t *testing.T) {
	x := held(t, 6)
	r, l := x.Clear(3, 0)
	check(t, "not registered", r, l, conflict())
	r, l = x.Clear(1, 10)
	check(t, "a wrong key", r, l, conflict())
	r, l = x.Clear(1, 11)
	check(t, "Clear", r, l, good(), Notice{0, api.CodePreempt}, Notice{2, api.CodePreempt}, Notice{5, api.CodePreempt})
	if holder(x) != [2]int{-1, 0} || len(x.Keys()) != 0 || x.Generation() != 5 {
		t.Error("P1502: Clear")
	}
}

func TestPreempt(t *testing.T) {
	x := held(t, 1)
	r, l := x.Preempt(3, 0, 11, 1)
	check(t, "not registered", r, l, conflict())
	r, l = x.Preempt(2, 11, 0, 1)
	check(t, "a wrong key", r, l, conflict())
	r, l = x.Preempt(2, 12, 0, 1)
	check(t, "other is 0", r, l, wrong(api.CodeParam))
	r, l = x.Preempt(2, 12, 99, 1)
	check(t, "nobody has it", r, l, conflict())
	r, l = x.Preempt(2, 12, 12, 1)
	check(t, "no other host has it", r, l, conflict())
	r, l = x.Preempt(2, 12, 10, 2)
	check(t, "a type that is none", r, l, wrong(api.CodeField))
	if holder(x) != [2]int{0, 1} || x.Generation() != 4 || len(x.Keys()) != 4 {
		t.Error("P1502: nothing is changed")
	}
	r, l = x.Preempt(2, 12, 11, 2)
	check(t, "not the holder's", r, l, good(), Notice{1, api.CodeRegs}, Notice{5, api.CodeRegs})
	if holder(x) != [2]int{0, 1} || x.Generation() != 5 || !slices.Equal(x.Keys(), []uint64{10, 12}) {
		t.Error("P1502: the reservation stays")
	}
	r, l = x.Preempt(2, 12, 10, 6)
	check(t, "the holder's", r, l, good(), Notice{0, api.CodeRegs})
	if holder(x) != [2]int{2, 6} || x.Generation() != 6 || !slices.Equal(x.Keys(), []uint64{12}) {
		t.Error("P1502: the reservation is the host's")
	}
}

func TestPreemptOfOnesOwnKey(t *testing.T) {
	x := table(t)
	x.Reserve(1, 11, 3)
	r, l := x.Preempt(1, 11, 11, 99)
	check(t, "the host holds it itself", r, l, good(), Notice{5, api.CodeRegs})
	if holder(x) != [2]int{1, 3} || x.Key(1) != 11 || x.Key(5) != 0 {
		t.Error("P1502: it holds still")
	}
	x = table(t)
	x.Reserve(5, 11, 3)
	r, l = x.Preempt(1, 11, 11, 5)
	check(t, "another one with the same key holds it", r, l, good(), Notice{5, api.CodeRegs})
	if holder(x) != [2]int{1, 5} {
		t.Error("P1502: the reservation is the host's")
	}
	x = table(t)
	r, l = x.Preempt(0, 10, 11, 99)
	check(t, "nobody holds it", r, l, good(), Notice{1, api.CodeRegs}, Notice{5, api.CodeRegs})
	if holder(x) != [2]int{-1, 0} {
		t.Error("P1502: nobody holds it")
	}
}

func TestAllows(t *testing.T) {
	for kind := 0; kind <= 19; kind++ {
		reads := kind == api.TestReady || kind == api.Read
		bound := reads || kind == api.Write || kind == api.SyncCache || kind == api.Unmap || kind == api.Compare
		if !table(t).Allows(3, kind) {
			t.Errorf("P1503: nobody holds it: %d", kind)
		}
		for _, typ := range []int{1, 3, 5, 6} {
			x := held(t, typ)
			byType := !bound || reads && (typ == 1 || typ == 5)
			if !x.Allows(0, kind) || x.Allows(1, kind) != (typ > 4 || byType) || x.Allows(3, kind) != byType {
				t.Errorf("P1503: kind %d, type %d", kind, typ)
			}
		}
	}
}

func TestEncode(t *testing.T) {
	x := New()
	x.Register(2, 0, 0x0102030405060708, false)
	want := make([]byte, 70)
	want[3] = 1
	for i := 0; i < 8; i++ {
		want[4+16+i] = byte(i + 1)
	}
	want[68] = 255
	if b := x.Encode(); !bytes.Equal(b, want) {
		t.Errorf("P1503: %v", b)
	}
	x.Reserve(2, 0x0102030405060708, 6)
	want[68], want[69] = 2, 6
	if b := x.Encode(); !bytes.Equal(b, want) {
		t.Errorf("P1503: %v", b)
	}
	for _, c := range []struct {
		holder, typ byte
		ok          bool
	}{{2, 6, true}, {2, 1, true}, {255, 0, true}, {255, 1, false}, {2, 0, false}, {2, 2, false}, {1, 1, false}, {8, 1, false}, {254, 0, false}} {
		want[68], want[69] = c.holder, c.typ
		y, err := Decode(want)
		if c.ok != (err == api.OK) || !c.ok && (err != api.ErrForm || y != nil) {
			t.Errorf("P1503: %+v: %v", c, err)
		}
		if c.ok && !bytes.Equal(y.Encode(), want) {
			t.Errorf("P1503: %+v: %v", c, y.Encode())
		}
	}
	want[68], want[69] = 255, 0
	for _, b := range [][]byte{nil, want[:69], append(want, 0)} {
		if y, err := Decode(b); err != api.ErrForm || y != nil {
			t.Errorf("P1503: %d bytes: %v", len(b), err)
		}
	}
}

func TestGenerationGoesRound(t *testing.T) {
	b := New().Encode()
	b[0], b[1], b[2], b[3] = 255, 255, 255, 255
	x, _ := Decode(b)
	x.Register(0, 0, 1, false)
	if x.Generation() != 0 {
		t.Errorf("P1501: %d", x.Generation())
	}
}

func TestTwinAndBackAgain(t *testing.T) {
	r := rand.New(rand.NewSource(10))
	x := New()
	for i := 0; i < 3000; i++ {
		b := x.Encode()
		y, err := Decode(b)
		z := x.Twin()
		if err != api.OK || !bytes.Equal(z.Encode(), b) {
			t.Fatalf("P1503: %v", err)
		}
		host, key, other, typ, op := r.Intn(8), uint64(r.Intn(4)), uint64(r.Intn(4)), r.Intn(7), r.Intn(9)
		step := func(t *Table) (api.Reply, []Notice) {
			switch op {
			case 0:
				return t.Clear(host, key)
			case 1:
				return t.Release(host, key, typ)
			case 2, 3:
				return t.Preempt(host, key, other, typ)
			case 4, 5:
				return t.Reserve(host, key, typ), nil
			}
			return t.Register(host, key, other, op == 6)
		}
		r1, l1 := step(y)
		r2, l2 := step(z)
		if !bytes.Equal(x.Encode(), b) {
			t.Fatal("P1503: a Twin is apart")
		}
		r3, l3 := step(x)
		if !reflect.DeepEqual(r1, r3) || !reflect.DeepEqual(r2, r3) || !slices.Equal(l1, l3) || !slices.Equal(l2, l3) || !bytes.Equal(y.Encode(), x.Encode()) {
			t.Fatal("P1503: decoded it tells the same")
		}
	}
}
