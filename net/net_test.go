package net

import (
	"math"
	"reflect"
	"testing"

	"gemel/api"
)

func fresh(t *testing.T, hosts int) *Net {
	t.Helper()
	x, err := New(hosts)
	if err != api.OK {
		t.Fatalf("P901: New(%d): %v", hosts, err)
	}
	return x
}

// row tells the first bytes of the packets that wait.
func row(x *Net) string {
	var s []byte
	for i := 0; i < x.Waiting(); i++ {
		p, _ := x.Packet(i)
		s = append(s, p.Data[0])
	}
	return string(s)
}

func TestNew(t *testing.T) {
	for _, n := range []int{0, -1, 65, math.MaxInt} {
		if x, err := New(n); err != api.ErrArg || x != nil {
			t.Errorf("P901: New(%d): %v", n, err)
		}
	}
	fresh(t, 1)
	fresh(t, 64)
}

func TestSend(t *testing.T) {
	x := fresh(t, 2)
	long := make([]byte, 8193)
	for _, c := range []struct {
		from, to int
		b        []byte
		err      api.Errno
	}{
		{-1, 0, nil, api.ErrArg}, {0, 2, nil, api.ErrArg}, {2, 0, nil, api.ErrArg}, {0, -1, long, api.ErrArg},
		{0, 0, long, api.ErrLong}, {0, 1, long[:8192], api.OK}, {1, 1, nil, api.OK},
	} {
		if err := x.Send(c.from, c.to, c.b); err != c.err {
			t.Errorf("P901: Send(%d, %d): %v", c.from, c.to, err)
		}
	}
	if x.Waiting() != 2 || x.Sent() != 2 {
		t.Errorf("P901: %d, %d", x.Waiting(), x.Sent())
	}
}

func TestFull(t *testing.T) {
	x := fresh(t, 2)
	for i := 0; i < 4096; i++ {
		if err := x.Send(0, 1, []byte{1}); err != api.OK {
			t.Fatalf("P901: %d: %v", i, err)
		}
	}
	if err := x.Send(0, 1, nil); err != api.ErrFull || x.Waiting() != 4096 || x.Sent() != 4096 {
		t.Errorf("P901: one more: %v", err)
	}
	if err := x.Send(0, 1, make([]byte, 8193)); err != api.ErrLong {
		t.Errorf("P6: ErrLong is ahead of ErrFull: %v", err)
	}
	if x.Copy(0) {
		t.Error("P901: a Copy where 4096 wait")
	}
	if !x.Drop(0) || !x.Copy(0) || x.Waiting() != 4096 || x.Sent() != 4096 {
		t.Error("P901: room again")
	}
}

func TestPlaces(t *testing.T) {
	x := fresh(t, 3)
	for i, c := range "abcde" {
		x.Send(i%3, (i+1)%3, []byte{byte(c)})
	}
	for _, i := range []int{-1, 5, math.MaxInt, math.MinInt} {
		if p, ok := x.Packet(i); ok || !reflect.DeepEqual(p, Packet{}) {
			t.Errorf("P901: Packet(%d)", i)
		}
		if p, ok := x.Deliver(i); ok || !reflect.DeepEqual(p, Packet{}) {
			t.Errorf("P901: Deliver(%d)", i)
		}
		if x.Drop(i) || x.Copy(i) {
			t.Errorf("P901: Drop, Copy(%d)", i)
		}
	}
	if p, ok := x.Packet(1); !ok || !reflect.DeepEqual(p, Packet{1, 2, []byte("b")}) || row(x) != "abcde" {
		t.Errorf("P901: Packet: %+v", p)
	}
	if p, ok := x.Deliver(1); !ok || !reflect.DeepEqual(p, Packet{1, 2, []byte("b")}) || row(x) != "acde" {
		t.Errorf("P901: Deliver: %+v", p)
	}
	if !x.Copy(0) || row(x) != "acdea" || !x.Drop(2) || row(x) != "acea" || x.Sent() != 5 {
		t.Errorf("P901: %s", row(x))
	}
}

func TestTake(t *testing.T) {
	x := fresh(t, 3)
	x.Send(0, 1, []byte("a"))
	x.Send(0, 2, []byte("b"))
	x.Send(1, 2, []byte("c"))
	if p, ok := x.Take(2); !ok || !reflect.DeepEqual(p, Packet{0, 2, []byte("b")}) || row(x) != "ac" {
		t.Errorf("P901: %+v", p)
	}
	for _, to := range []int{0, -1, 3} {
		if p, ok := x.Take(to); ok || !reflect.DeepEqual(p, Packet{}) {
			t.Errorf("P901: Take(%d)", to)
		}
	}
}

func TestMemory(t *testing.T) {
	x := fresh(t, 1)
	b := []byte("abc")
	x.Send(0, 0, b)
	x.Copy(0)
	b[0] = 'x'
	p, _ := x.Packet(0)
	p.Data[0] = 'y'
	y := x.Twin()
	q, _ := x.Deliver(0)
	q.Data[1] = 'z'
	if row(x) != "a" || row(y) != "aa" {
		t.Errorf("P2: %s, %s", row(x), row(y))
	}
	y.Send(0, 0, []byte("n"))
	if x.Waiting() != 1 || x.Sent() != 1 || y.Sent() != 2 {
		t.Error("P901: a Twin is apart")
	}
}
