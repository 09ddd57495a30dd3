package bin

import (
	"bytes"
	"math"
	"testing"
)

func TestPut(t *testing.T) {
	for _, c := range []struct {
		v    uint64
		n    int
		want []byte
	}{
		{0x0102030405060708, 8, []byte{7, 1, 2, 3, 4, 5, 6, 7, 8}},
		{0x0102030405060708, 3, []byte{7, 6, 7, 8}},
		{0xFF, 1, []byte{7, 0xFF}},
		{0xFF, 2, []byte{7, 0, 0xFF}},
		{5, 0, []byte{7}},
		{5, 9, []byte{7}},
		{5, -1, []byte{7}},
		{5, math.MinInt, []byte{7}},
	} {
		if got := Put([]byte{7}, c.v, c.n); !bytes.Equal(got, c.want) {
			t.Errorf("P101: Put(%x, %d): %v", c.v, c.n, got)
		}
	}
	if got := Put(nil, 3, 2); !bytes.Equal(got, []byte{0, 3}) {
		t.Errorf("P101: Put of nothing: %v", got)
	}
}

func TestPutKeepsItsInput(t *testing.T) {
	room := []byte{1, 2, 3, 4, 5, 6, 7, 8}
	for _, n := range []int{0, 1, 4} {
		got := Put(room[:2], 0x99, n)
		padded := Pad(room[:3], 4)
		for i := range got {
			got[i] = 77
		}
		for i := range padded {
			padded[i] = 77
		}
		_ = append(Pad(room[:4], 4), 9)
		if !bytes.Equal(room, []byte{1, 2, 3, 4, 5, 6, 7, 8}) {
			t.Fatalf("P2: the spare room was changed: %v", room)
		}
	}
}

func TestGet(t *testing.T) {
	b := []byte{0x80, 2, 3, 4, 5, 6, 7, 8, 9}
	for _, c := range []struct {
		at, n int
		v     uint64
		ok    bool
	}{
		{0, 8, 0x8002030405060708, true},
		{1, 8, 0x0203040506070809, true},
		{8, 1, 9, true},
		{0, 1, 0x80, true},
		{2, 8, 0, false},
		{9, 1, 0, false},
		{0, 0, 0, false},
		{0, 9, 0, false},
		{-1, 1, 0, false},
		{math.MaxInt, 8, 0, false},
		{math.MinInt, 8, 0, false},
		{0, math.MinInt, 0, false},
	} {
		if v, ok := Get(b, c.at, c.n); v != c.v || ok != c.ok {
			t.Errorf("P101: Get(%d, %d): %x, %v", c.at, c.n, v, ok)
		}
	}
}

func TestPad(t *testing.T) {
	for _, c := range []struct{ have, to, want int }{
		{0, 4, 0}, {1, 4, 4}, {4, 4, 4}, {5, 4, 8}, {5, 1, 5}, {5, 4096, 4096},
		{5, 4097, 5}, {5, 0, 5}, {5, -4, 5}, {5, math.MinInt, 5},
	} {
		b := bytes.Repeat([]byte{1}, c.have)
		got := Pad(b, c.to)
		if len(got) != c.want || !bytes.Equal(got[:c.have], b) || len(bytes.Trim(got[c.have:], "\x00")) != 0 {
			t.Errorf("P101: Pad(%d bytes, %d): %v", c.have, c.to, got)
		}
	}
}

func TestGap(t *testing.T) {
	for _, c := range []struct {
		a, b uint32
		gap  int
	}{
		{0, 0, 0}, {1, 2, 1}, {2, 1, -1}, {math.MaxUint32, 0, 1}, {0, math.MaxUint32, -1},
		{0, 1 << 31, -1 << 31}, {1 << 31, 0, -1 << 31}, {5, 5 + 1<<31 - 1, 1<<31 - 1},
	} {
		if g := Gap(c.a, c.b); g != c.gap {
			t.Errorf("P102: Gap(%d, %d): %d", c.a, c.b, g)
		}
		if l := Less(c.a, c.b); l != (c.gap > 0) {
			t.Errorf("P102: Less(%d, %d): %v", c.a, c.b, l)
		}
	}
}

func TestWithin(t *testing.T) {
	for _, c := range []struct {
		lo, n, x uint32
		want     bool
	}{
		{5, 3, 5, true}, {5, 3, 7, true}, {5, 3, 8, false}, {5, 3, 4, false}, {5, 0, 5, false},
		{math.MaxUint32, 2, 0, true}, {math.MaxUint32, 2, 1, false},
		{9, math.MaxUint32, 7, true}, {9, math.MaxUint32, 8, false},
	} {
		if got := Within(c.lo, c.n, c.x); got != c.want {
			t.Errorf("P102: Within(%d, %d, %d): %v", c.lo, c.n, c.x, got)
		}
	}
}
