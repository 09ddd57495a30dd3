package space

import (
	"bytes"
	"math"
	"math/rand"
	"testing"

	"gemel/api"
)

func fresh(t *testing.T, n int) *Space {
	t.Helper()
	s, err := New(n)
	if err != api.OK || s.Blocks() != n {
		t.Fatalf("P1401: New(%d): %v", n, err)
	}
	return s
}

func fill(blocks int, x byte) []byte { return bytes.Repeat([]byte{x}, 8*blocks) }

func read(t *testing.T, s *Space, at, n int) []byte {
	t.Helper()
	b, err := s.Read(at, n)
	if err != api.OK || len(b) != 8*n {
		t.Fatalf("P1401: Read(%d, %d): %v", at, n, err)
	}
	return b
}

func TestNew(t *testing.T) {
	for _, n := range []int{0, -1, 1025, math.MaxInt} {
		if s, err := New(n); err != api.ErrArg || s != nil {
			t.Errorf("P1401: New(%d): %v", n, err)
		}
	}
	s := fresh(t, 1024)
	fresh(t, 1)
	if !bytes.Equal(read(t, s, 1000, 24), fill(24, 0)) || s.Mapped(0) || s.Mapped(-1) || s.Mapped(1024) {
		t.Error("P1401: none is mapped")
	}
}

func TestIn(t *testing.T) {
	s := fresh(t, 40)
	for _, c := range []struct {
		at, n int
		want  bool
	}{
		{0, 0, true}, {40, 0, true}, {41, 0, false}, {-1, 0, false}, {0, 32, true}, {0, 33, false}, {8, 32, true}, {9, 32, false}, {39, 1, true},
		{40, 1, false}, {0, -1, false}, {-1, 2, false}, {math.MaxInt, 1, false}, {math.MaxInt, math.MaxInt, false}, {math.MinInt, math.MinInt, false},
	} {
		if s.In(c.at, c.n) != c.want {
			t.Errorf("P1401: In(%d, %d)", c.at, c.n)
		}
		b, err := s.Read(c.at, c.n)
		if (err == api.OK) != c.want || err != api.OK && (err != api.ErrArg || b != nil) {
			t.Errorf("P1401: Read(%d, %d): %v", c.at, c.n, err)
		}
		if err := s.Unmap(c.at, c.n); (err == api.OK) != c.want || err != api.OK && err != api.ErrArg {
			t.Errorf("P1401: Unmap(%d, %d): %v", c.at, c.n, err)
		}
	}
	if small := fresh(t, 3); small.In(0, 4) || !small.In(0, 3) {
		t.Error("P1401: fewer blocks than a run")
	}
}

func TestWriteAndUnmap(t *testing.T) {
	s := fresh(t, 40)
	b := append(fill(1, 1), fill(1, 2)...)
	if err := s.Write(3, b); err != api.OK {
		t.Fatal(err)
	}
	b[0] = 9
	got := read(t, s, 2, 4)
	if !bytes.Equal(got, append(append(fill(1, 0), append(fill(1, 1), fill(1, 2)...)...), fill(1, 0)...)) {
		t.Errorf("P1401: %v", got)
	}
	got[8] = 9
	if read(t, s, 3, 1)[0] != 1 {
		t.Error("P2: an answer is new memory")
	}
	if s.Mapped(2) || !s.Mapped(3) || !s.Mapped(4) || s.Mapped(5) {
		t.Error("P1401: Mapped")
	}
	s.Write(0, fill(1, 0))
	if !s.Mapped(0) {
		t.Error("P1401: noughts are mapped, too")
	}
	if s.Unmap(3, 1) != api.OK || s.Mapped(3) || !s.Mapped(4) || read(t, s, 3, 1)[0] != 0 {
		t.Error("P1401: Unmap")
	}
	for _, c := range []struct{ at, n int }{{0, 7}, {0, 9}, {39, 16}, {-1, 8}, {0, 33 * 8}, {41, 0}} {
		if err := s.Write(c.at, make([]byte, c.n)); err != api.ErrArg {
			t.Errorf("P1401: Write(%d, %d bytes): %v", c.at, c.n, err)
		}
	}
	if s.Write(40, nil) != api.OK || s.Write(8, fill(32, 5)) != api.OK {
		t.Error("P1401: at the bounds")
	}
}

func TestCompare(t *testing.T) {
	s := fresh(t, 40)
	s.Write(1, fill(1, 7))
	for _, c := range []struct {
		at      int
		data    []byte
		differs int
		err     api.Errno
		after   byte
	}{
		{1, append(fill(1, 7), fill(1, 8)...), -1, api.OK, 8},
		{1, append(fill(1, 7), fill(1, 9)...), 0, api.OK, 8},
		{0, append(append(fill(1, 0), 8, 8, 8, 9, 9, 9, 9, 9), fill(2, 1)...), 11, api.OK, 8},
		{1, fill(1, 8), 0, api.ErrArg, 8},
		{1, fill(3, 8), 0, api.ErrArg, 8},
		{1, make([]byte, 20), 0, api.ErrArg, 8},
		{39, fill(4, 0), 0, api.ErrArg, 8},
		{-1, fill(2, 0), 0, api.ErrArg, 8},
		{0, fill(66, 0), 0, api.ErrArg, 8},
		{41, nil, 0, api.ErrArg, 8},
		{40, nil, -1, api.OK, 8},
		{8, fill(64, 0), -1, api.OK, 8},
	} {
		differs, err := s.Compare(c.at, c.data)
		if differs != c.differs || err != c.err || read(t, s, 1, 1)[0] != c.after {
			t.Errorf("P1401: Compare(%d, %d bytes): %d, %v", c.at, len(c.data), differs, err)
		}
	}
	if s.Mapped(0) || !s.Mapped(39) {
		t.Error("P1401: what is written is mapped, else nothing is changed")
	}
}

func TestEncode(t *testing.T) {
	s := fresh(t, 10)
	s.Write(9, fill(1, 2))
	s.Write(0, fill(1, 1))
	want := append(append([]byte{0, 10, 1, 2}, fill(1, 1)...), fill(1, 2)...)
	if b := s.Encode(); !bytes.Equal(b, want) {
		t.Errorf("P1402: %v", b)
	}
	if b := fresh(t, 1024).Encode(); !bytes.Equal(b, append([]byte{4, 0}, make([]byte, 128)...)) {
		t.Errorf("P1402: an empty one: %v", b)
	}
}

func TestDecode(t *testing.T) {
	good := append(append([]byte{0, 10, 1, 2}, fill(1, 1)...), fill(1, 2)...)
	s, err := Decode(good)
	if err != api.OK || s.Blocks() != 10 || !s.Mapped(0) || s.Mapped(1) || !s.Mapped(9) || read(t, s, 9, 1)[0] != 2 {
		t.Fatalf("P1402: %v", err)
	}
	for _, b := range [][]byte{
		nil, {0}, {0, 0}, {0, 10}, {0, 10, 0}, {4, 1}, append([]byte{4, 1}, make([]byte, 129)...), good[:len(good)-1],
		append(append([]byte(nil), good...), 0), {0, 10, 0, 4}, append([]byte{0, 10, 0, 4}, fill(1, 1)...), {255, 255},
	} {
		if s, err := Decode(b); err != api.ErrForm || s != nil {
			t.Errorf("P1402: %v: %v", b, err)
		}
	}
}

func TestTwinAndBackAgain(t *testing.T) {
	r := rand.New(rand.NewSource(9))
	s := fresh(t, 50)
	for i := 0; i < 300; i++ {
		at, n := r.Intn(50), r.Intn(5)
		if r.Intn(3) == 0 {
			s.Unmap(at, n)
		} else {
			s.Write(at, fill(n, byte(r.Intn(3))))
		}
		b := s.Encode()
		d, err := Decode(b)
		if err != api.OK || !bytes.Equal(d.Encode(), b) {
			t.Fatalf("P1402: %v", err)
		}
		d.Write(0, fill(1, 99))
		e := s.Twin()
		e.Write(49, fill(1, 98))
		e.Unmap(0, 4)
		if !bytes.Equal(s.Encode(), b) {
			t.Fatal("P1402: a Twin is apart")
		}
	}
}
