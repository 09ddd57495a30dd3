package crc

import (
	"bytes"
	"hash/crc32"
	"math/rand"
	"testing"

	"gemel/api"
)

func TestSumIsTheKnownOne(t *testing.T) {
	if s := Sum([]byte("123456789")); s != 0xE3069283 {
		t.Errorf("P201: %x", s)
	}
	if s := Sum(nil); s != 0 {
		t.Errorf("P201: of nothing: %x", s)
	}
	known := crc32.MakeTable(crc32.Castagnoli)
	r := rand.New(rand.NewSource(1))
	for n := 0; n < 300; n++ {
		b := make([]byte, n)
		r.Read(b)
		if s := Sum(b); s != crc32.Checksum(b, known) {
			t.Fatalf("P201: of %d bytes: %x", n, s)
		}
	}
}

func TestMore(t *testing.T) {
	b := []byte("what goes over the wire")
	for i := range b {
		if More(Sum(b[:i]), b[i:]) != Sum(b) {
			t.Errorf("P201: More from %d on", i)
		}
	}
	if More(0x1234, nil) != 0x1234 {
		t.Error("P201: More of nothing")
	}
}

func TestSealAndOpen(t *testing.T) {
	s := Seal([]byte("123456789"))
	if !bytes.Equal(s, append([]byte("123456789"), 0x83, 0x92, 0x06, 0xE3)) {
		t.Errorf("P201: Seal: %v", s)
	}
	if b, err := Open(s); err != api.OK || string(b) != "123456789" {
		t.Errorf("P201: Open: %q, %v", b, err)
	}
	if b, err := Open(Seal(nil)); err != api.OK || len(b) != 0 {
		t.Errorf("P201: Open of nothing: %q, %v", b, err)
	}
	for n := 0; n < 4; n++ {
		if b, err := Open(make([]byte, n)); err != api.ErrShort || b != nil {
			t.Errorf("P201: Open of %d bytes: %v, %v", n, b, err)
		}
	}
	if b, err := Open([]byte{1, 0, 0, 0, 0}); err != api.ErrSum || b != nil {
		t.Errorf("P201: Open of a wrong sum: %v, %v", b, err)
	}
}

func TestTurnedBitsAreFound(t *testing.T) {
	r := rand.New(rand.NewSource(2))
	s := Seal([]byte("a packet of some bytes"))
	for i := 0; i < 3000; i++ {
		bad := append([]byte(nil), s...)
		from, some := r.Intn(8*len(s)-32), r.Uint32()|1
		for j := 0; j < 32; j++ {
			if some>>j&1 != 0 {
				bad[(from+j)/8] ^= 1 << ((from + j) % 8)
			}
		}
		if _, err := Open(bad); err != api.ErrSum {
			t.Fatalf("P201: turned bits from %d on: %v", from, err)
		}
	}
}

func TestAnswersAreNewMemory(t *testing.T) {
	room := []byte{1, 2, 3, 4, 5, 6, 7, 8}
	s := Seal(room[:3])
	if !bytes.Equal(room, []byte{1, 2, 3, 4, 5, 6, 7, 8}) {
		t.Errorf("P2: the spare room was changed: %v", room)
	}
	b, _ := Open(s)
	b[0] = 99
	_ = append(b, 98)
	if again, err := Open(s); err != api.OK || again[0] != 1 {
		t.Error("P2: Open's answer shares memory")
	}
}
