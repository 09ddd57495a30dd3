package twin

import (
	"bytes"
	"math"
	"slices"
	"testing"

	"gemel/api"
	"gemel/crc"
	"gemel/disk"
)

func newDisk(n int) *disk.Disk {
	d, _ := disk.New(n)
	return d
}

func open(t *testing.T, d *disk.Disk, at int) *Twin {
	t.Helper()
	x, err := Open(d, at)
	if err != api.OK {
		t.Fatalf("P1101: Open: %v", err)
	}
	return x
}

func TestPack(t *testing.T) {
	b, err := Pack(0x0102030405060708, []byte("abc"))
	want := append([]byte("TWIN\x01\x02\x03\x04\x05\x06\x07\x08\x00\x03abc"), make([]byte, 508-17)...)
	if err != api.OK || !bytes.Equal(b, crc.Seal(want)) {
		t.Errorf("P1101: Pack: %v, %v", b, err)
	}
	if n, v, err := Unpack(b); n != 0x0102030405060708 || string(v) != "abc" || err != api.OK {
		t.Errorf("P1101: Unpack: %x, %q, %v", n, v, err)
	}
	full := bytes.Repeat([]byte{9}, MaxValue)
	b, err = Pack(math.MaxUint64, full)
	if err != api.OK || len(b) != api.Sector {
		t.Errorf("P1101: at the bound: %v", err)
	}
	if n, v, err := Unpack(b); n != math.MaxUint64 || !bytes.Equal(v, full) || err != api.OK {
		t.Errorf("P1101: at the bound: %v", err)
	}
	if b, err := Pack(1, make([]byte, MaxValue+1)); err != api.ErrLong || b != nil {
		t.Errorf("P1101: one more: %v", err)
	}
}

// resealed tells a sector with a byte changed, and its sum right again.
func resealed(b []byte, at int, x byte) []byte {
	c := slices.Clone(b[:508])
	c[at] = x
	return crc.Seal(c)
}

func TestUnpackRefuses(t *testing.T) {
	b, _ := Pack(5, []byte("abc"))
	turned := slices.Clone(b)
	turned[8] ^= 1
	for i, c := range []struct {
		b   []byte
		err api.Errno
	}{
		{nil, api.ErrShort}, {b[:511], api.ErrShort}, {append(slices.Clone(b), 0), api.ErrShort},
		{turned, api.ErrSum}, {make([]byte, 512), api.ErrSum},
		{resealed(b, 0, 't'), api.ErrForm}, {resealed(b, 12, 2), api.ErrForm},
		{resealed(b, 17, 1), api.ErrForm}, {resealed(b, 507, 1), api.ErrForm}, {resealed(b, 13, 2), api.ErrForm},
	} {
		if n, v, err := Unpack(c.b); n != 0 || v != nil || err != c.err {
			t.Errorf("P1101: %d: %d, %v, %v", i, n, v, err)
		}
	}
}

func TestUnpackTakesALongerLength(t *testing.T) {
	b, _ := Pack(5, []byte("abc"))
	if n, v, err := Unpack(resealed(b, 12, 1)); n != 5 || len(v) != 259 || err != api.OK {
		t.Errorf("P1101: %d, %d bytes, %v", n, len(v), err)
	}
}

func TestFormat(t *testing.T) {
	d := newDisk(5)
	for _, at := range []int{-1, 4, 5, math.MaxInt, math.MinInt} {
		if err := Format(d, at, make([]byte, 500)); err != api.ErrArg {
			t.Errorf("P1101: Format at %d: %v", at, err)
		}
		if x, err := Open(d, at); err != api.ErrArg || x != nil {
			t.Errorf("P1101: Open at %d: %v", at, err)
		}
	}
	if err := Format(d, 3, make([]byte, 489)); err != api.ErrLong || d.Calls() != 0 {
		t.Errorf("P1101: a long one: %v", err)
	}
	d.Write(3, []byte{1})
	if err := Format(d, 3, []byte("v")); err != api.OK || d.Calls() != 4 || d.Waiting() != 0 {
		t.Errorf("P1101: Format: %v, %d calls", err, d.Calls())
	}
	want, _ := Pack(1, []byte("v"))
	zero, _ := d.Read(3)
	got, _ := d.Read(4)
	if !bytes.Equal(zero, make([]byte, 512)) || !bytes.Equal(got, want) {
		t.Error("P1101: what Format lays")
	}
	x := open(t, d, 3)
	if string(x.Value()) != "v" || x.Number() != 1 {
		t.Errorf("P1101: %q, %d", x.Value(), x.Number())
	}
}

func TestFormatTellsTheDisksError(t *testing.T) {
	for n := 1; n <= 3; n++ {
		d := newDisk(2)
		d.Arm(n)
		if err := Format(d, 0, nil); err != api.ErrDown || d.Calls() != n-1 {
			t.Errorf("P1101: %d: %v", n, err)
		}
	}
	d := newDisk(2)
	d.Die()
	if err := Format(d, 0, nil); err != api.ErrDead {
		t.Errorf("P1101: %v", err)
	}
	if x, err := Open(d, 0); err != api.ErrDead || x != nil {
		t.Errorf("P1101: %v", err)
	}
	if err := Format(d, 0, make([]byte, 489)); err != api.ErrLong {
		t.Errorf("P6: %v", err)
	}
}

func TestOpenTakesTheGreater(t *testing.T) {
	sector := func(n uint64) []byte {
		b, _ := Pack(n, []byte{byte(n)})
		return b
	}
	for _, c := range []struct {
		even, odd []byte
		want      int // -1: none
	}{
		{sector(4), sector(5), 5}, {sector(6), sector(5), 6}, {sector(0), nil, 0}, {nil, sector(1), 1},
		{sector(5), sector(4), -1}, {sector(9), sector(3), 3}, {nil, nil, -1}, {sector(2), sector(8), 2},
		{sector(0), sector(math.MaxUint64), 255},
	} {
		d := newDisk(2)
		d.Write(0, c.even)
		d.Write(1, c.odd)
		x, err := Open(d, 0)
		if c.want < 0 {
			if err != api.ErrForm || x != nil {
				t.Errorf("P1101: %v", err)
			}
			continue
		}
		if err != api.OK || int(x.Value()[0]) != c.want {
			t.Errorf("P1101: %v, not %d", err, c.want)
		}
	}
}

func TestPut(t *testing.T) {
	d := newDisk(2)
	Format(d, 0, []byte("a"))
	x := open(t, d, 0)
	for i, s := range []string{"b", "", "c"} {
		calls := d.Calls()
		if err := x.Put([]byte(s)); err != api.OK || d.Calls() != calls+2 || d.Waiting() != 0 {
			t.Fatalf("P1101: Put: %v", err)
		}
		n := uint64(i + 2)
		if string(x.Value()) != s || x.Number() != n {
			t.Errorf("P1101: %q, %d", x.Value(), x.Number())
		}
		want, _ := Pack(n, []byte(s))
		if got, _ := d.Read(int(n % 2)); !bytes.Equal(got, want) {
			t.Errorf("P1101: number %d is not in its sector", n)
		}
		if y := open(t, d, 0); string(y.Value()) != s || y.Number() != n {
			t.Errorf("P1101: opened: %q, %d", y.Value(), y.Number())
		}
	}
	if err := x.Put(make([]byte, MaxValue+1)); err != api.ErrLong || x.Number() != 4 || string(x.Value()) != "c" {
		t.Errorf("P1101: a long one: %v", err)
	}
	x.Value()[0] = 'x'
	b := []byte("own")
	x.Put(b)
	b[0] = 'x'
	if string(x.Value()) != "own" {
		t.Error("P2: the value is its own")
	}
}

func TestPowerGoesInPut(t *testing.T) {
	for n := 1; n <= 2; n++ {
		for pick := 0; pick < 2; pick++ {
			d := newDisk(2)
			Format(d, 0, []byte("a"))
			x := open(t, d, 0)
			x.Put([]byte("b"))
			d.Arm(n, pick)
			if err := x.Put([]byte("c")); err != api.ErrDown || string(x.Value()) != "b" || x.Number() != 2 {
				t.Errorf("P1101: %v, %q", err, x.Value())
			}
			if _, err := Open(d, 0); err != api.ErrDown {
				t.Errorf("P1101: without power: %v", err)
			}
			d.On()
			want := "b"
			if n == 2 && pick == 1 {
				want = "c"
			}
			y := open(t, d, 0)
			if string(y.Value()) != want {
				t.Errorf("P1102: %d, %d: %q", n, pick, y.Value())
			}
			if y.Put([]byte("d")) != api.OK || string(open(t, d, 0).Value()) != "d" {
				t.Error("P1102: it goes on")
			}
		}
	}
}
