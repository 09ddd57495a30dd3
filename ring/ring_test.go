package ring

import (
	"bytes"
	"math"
	"math/rand"
	"slices"
	"testing"

	"gemel/api"
	"gemel/crc"
	"gemel/disk"
)

func newDisk(n int) *disk.Disk {
	d, _ := disk.New(n)
	return d
}

func open(t *testing.T, d *disk.Disk, at, sectors int, first uint64, place int, life uint32) (*Ring, [][]byte) {
	t.Helper()
	r, l, err := Open(d, at, sectors, first, place, life)
	if err != api.OK {
		t.Fatalf("P1202: Open: %v", err)
	}
	return r, l
}

func add(t *testing.T, r *Ring, b []byte) {
	t.Helper()
	want := r.Next()
	if n, err := r.Append(b); n != want || err != api.OK {
		t.Fatalf("P1202: Append: %d, %v", n, err)
	}
}

func fill(n int, x byte) []byte { return bytes.Repeat([]byte{x}, n) }

func TestNeed(t *testing.T) {
	for n, want := range map[int]int{-1: 1, math.MinInt: 1, 0: 1, 1: 1, 480: 1, 481: 2, 960: 2, 961: 3, 32768: 69, math.MaxInt: math.MaxInt/480 + 1} {
		if got := Need(n); got != want {
			t.Errorf("P1201: Need(%d): %d", n, got)
		}
	}
}

func TestPack(t *testing.T) {
	b, err := Pack(0x0102030405060708, 0x0A0B0C0D, 1, 0x0102, []byte("abc"))
	want := append([]byte("RING\x01\x02\x03\x04\x05\x06\x07\x08\x0a\x0b\x0c\x0d\x00\x01\x01\x02\x00\x03abc"), make([]byte, 508-25)...)
	if err != api.OK || !bytes.Equal(b, crc.Seal(want)) {
		t.Errorf("P1201: %v, %v", b, err)
	}
	n, life, part, parts, data, err := Unpack(b)
	if n != 0x0102030405060708 || life != 0x0A0B0C0D || part != 1 || parts != 0x0102 || string(data) != "abc" || err != api.OK {
		t.Errorf("P1201: %x, %x, %d, %d, %q, %v", n, life, part, parts, data, err)
	}
	for _, c := range []struct {
		part, parts, n int
		err            api.Errno
	}{
		{0, 0, 0, api.ErrArg}, {1, 1, 0, api.ErrArg}, {-1, 1, 0, api.ErrArg}, {0, 65536, 0, api.ErrArg}, {0, -1, 999, api.ErrArg},
		{0, 1, 481, api.ErrLong}, {65534, 65535, 480, api.OK}, {0, 1, 0, api.OK},
	} {
		if b, err := Pack(1, 1, c.part, c.parts, make([]byte, c.n)); err != c.err || (b == nil) != (err != api.OK) {
			t.Errorf("P1201: %+v: %v", c, err)
		}
	}
}

func TestUnpackRefuses(t *testing.T) {
	b, _ := Pack(5, 1, 0, 2, []byte("abc"))
	with := func(at int, x byte) []byte {
		c := slices.Clone(b[:508])
		c[at] = x
		return crc.Seal(c)
	}
	turned := slices.Clone(b)
	turned[20] ^= 1
	for i, c := range []struct {
		b   []byte
		err api.Errno
	}{
		{nil, api.ErrShort}, {b[:511], api.ErrShort}, {append(slices.Clone(b), 0), api.ErrShort}, {turned, api.ErrSum},
		{make([]byte, 512), api.ErrSum}, {with(0, 'r'), api.ErrForm}, {with(17, 2), api.ErrForm}, {with(19, 0), api.ErrForm},
		{with(20, 2), api.ErrForm}, {with(21, 2), api.ErrForm}, {with(507, 1), api.ErrForm},
	} {
		n, life, part, parts, data, err := Unpack(c.b)
		if n != 0 || life != 0 || part != 0 || parts != 0 || data != nil || err != c.err {
			t.Errorf("P1201: %d: %v", i, err)
		}
	}
}

func TestOpenRefuses(t *testing.T) {
	d := newDisk(10)
	for _, c := range []struct {
		at, sectors int
		first       uint64
		place       int
	}{
		{0, 1, 0, 0}, {0, 11, 0, 0}, {-1, 5, 0, 0}, {6, 5, 0, 0}, {math.MaxInt, 5, 0, 0}, {0, math.MaxInt, 0, 0}, {0, math.MinInt, 0, 0},
		{0, 5, 0, -1}, {0, 5, 0, 5}, {0, 5, 1<<62 + 1, 0},
	} {
		if r, l, err := Open(d, c.at, c.sectors, c.first, c.place, 0); err != api.ErrArg || r != nil || l != nil {
			t.Errorf("P1202: %+v: %v", c, err)
		}
	}
	r, l := open(t, d, 5, 5, 1<<62, 4, 0)
	if n, p := r.First(); n != 1<<62 || p != 4 || r.Next() != 1<<62 || r.Room() != 5 || len(l) != 0 {
		t.Error("P1202: an empty one")
	}
	d.Crash()
	if _, _, err := Open(d, 0, 5, 0, 0, 0); err != api.ErrDown {
		t.Errorf("P1202: %v", err)
	}
	if _, _, err := Open(d, 0, 1, 0, 0, 0); err != api.ErrArg {
		t.Errorf("P6: %v", err)
	}
}

func TestAppendAndTrim(t *testing.T) {
	d := newDisk(12)
	r, _ := open(t, d, 2, 8, 7, 6, 3)
	l := [][]byte{fill(480, 1), fill(481, 2), nil, fill(960, 4)}
	for _, b := range l {
		add(t, r, b)
	}
	if n, p := r.First(); n != 7 || p != 6 || r.Next() != 11 || r.Room() != 2 || d.Waiting() != 6 {
		t.Errorf("P1202: %d, %d, %d", n, p, r.Room())
	}
	for i, where := range []int{8, 9, 2, 3, 4, 5} { // going round
		s, _ := d.Read(where)
		number, life, part, parts, _, err := Unpack(s)
		want := [][3]int{{7, 0, 1}, {8, 0, 2}, {8, 1, 2}, {9, 0, 1}, {10, 0, 2}, {10, 1, 2}}[i]
		if err != api.OK || [3]int{int(number), part, parts} != want || life != 3 {
			t.Errorf("P1201: sector %d: %d, %d of %d, %v", where, number, part, parts, err)
		}
	}
	if n, err := r.Append(fill(961, 5)); n != 0 || err != api.ErrFull {
		t.Errorf("P1202: three sectors in two: %v", err)
	}
	if n, err := r.Append(fill(32769, 5)); n != 0 || err != api.ErrLong {
		t.Errorf("P1202: a long one: %v", err)
	}
	for _, to := range []uint64{6, 12, math.MaxUint64, 0} {
		if err := r.Trim(to); err != api.ErrArg {
			t.Errorf("P1202: Trim(%d): %v", to, err)
		}
	}
	for i, b := range l {
		if got, err := r.Read(uint64(7 + i)); err != api.OK || !bytes.Equal(got, b) {
			t.Errorf("P1202: Read(%d): %v", 7+i, err)
		}
	}
	if err := r.Trim(9); err != api.OK {
		t.Errorf("P1202: Trim: %v", err)
	}
	if n, p := r.First(); n != 9 || p != 1 || r.Room() != 5 || r.Next() != 11 {
		t.Errorf("P1202: %d, %d, %d", n, p, r.Room())
	}
	for _, n := range []uint64{8, 11, math.MaxUint64} {
		if b, err := r.Read(n); err != api.ErrNone || b != nil {
			t.Errorf("P1202: Read(%d): %v", n, err)
		}
	}
	if r.Flush() != api.OK || d.Waiting() != 0 {
		t.Error("P1202: Flush")
	}
	_, found := open(t, d, 2, 8, 9, 1, 3)
	if len(found) != 2 || len(found[0]) != 0 || !bytes.Equal(found[1], l[3]) {
		t.Errorf("P1202: opened: %d", len(found))
	}
	if r.Trim(11) != api.OK || r.Room() != 8 {
		t.Error("P1202: all are gone")
	}
	if n, p := r.First(); n != 11 || p != 4 {
		t.Errorf("P1202: %d, %d", n, p)
	}
}

func TestTheLeastRing(t *testing.T) {
	d := newDisk(3)
	r, _ := open(t, d, 1, 2, 5, 1, 1)
	add(t, r, fill(481, 1))
	if _, err := r.Append(nil); err != api.ErrFull {
		t.Errorf("P1202: %v", err)
	}
	if _, l := open(t, d, 1, 2, 5, 1, 2); len(l) != 1 || len(l[0]) != 481 {
		t.Errorf("P1202: two sectors: %d", len(l))
	}
}

func TestALongRecord(t *testing.T) {
	d := newDisk(69)
	r, _ := open(t, d, 0, 69, 0, 0, 0)
	long := fill(32768, 7)
	add(t, r, long)
	if r.Room() != 0 {
		t.Errorf("P1201: %d", r.Room())
	}
	if _, l := open(t, d, 0, 69, 0, 0, 9); len(l) != 1 || !bytes.Equal(l[0], long) {
		t.Error("P1202: all sectors")
	}
}

// part is a sector to be laid.
type part struct {
	number      uint64
	life        uint32
	part, parts int
	n           int
}

func TestWhatOpenFinds(t *testing.T) {
	for i, c := range []struct {
		l    []part
		life uint32
		want []int // lengths
	}{
		{[]part{{3, 0, 0, 1, 9}, {4, 0, 0, 1, 0}}, 0, []int{9, 0}},
		{[]part{{3, 5, 0, 1, 9}, {4, 4, 0, 1, 9}}, 9, []int{9}},
		{[]part{{3, 4, 0, 1, 9}, {4, 5, 0, 1, 8}, {5, 5, 0, 1, 7}}, 5, []int{9, 8, 7}},
		{[]part{{3, 4, 0, 1, 9}, {4, 5, 0, 1, 9}}, 4, []int{9}},
		{[]part{{3, 4, 0, 1, 9}}, 3, nil},
		{[]part{{4, 0, 0, 1, 9}}, 9, nil},
		{[]part{{3, 0, 0, 1, 9}, {5, 0, 0, 1, 9}}, 9, []int{9}},
		{[]part{{3, 0, 1, 2, 9}}, 9, nil},
		{[]part{{3, 1, 0, 2, 480}, {3, 1, 1, 2, 480}, {4, 1, 0, 1, 480}}, 9, []int{960, 480}},
		{[]part{{3, 1, 0, 2, 479}, {3, 1, 1, 2, 9}}, 9, nil},
		{[]part{{3, 1, 0, 2, 480}, {3, 2, 1, 2, 9}}, 9, nil},
		{[]part{{3, 2, 0, 2, 480}, {3, 1, 1, 2, 9}}, 9, nil},
		{[]part{{3, 1, 0, 2, 480}, {3, 1, 1, 2, 0}}, 9, nil},
		{[]part{{3, 1, 0, 2, 480}, {3, 1, 1, 3, 480}, {3, 1, 2, 3, 9}}, 9, nil},
		{[]part{{3, 1, 0, 2, 480}, {3, 1, 0, 2, 9}}, 9, nil},
		{[]part{{3, 1, 0, 2, 480}, {4, 1, 1, 2, 9}}, 9, nil},
		{[]part{{3, 1, 0, 5, 480}, {3, 1, 1, 5, 480}, {3, 1, 2, 5, 480}, {3, 1, 3, 5, 480}}, 9, nil},
		{[]part{{3, 1, 0, 3, 480}, {3, 1, 1, 3, 480}, {3, 1, 2, 3, 1}, {4, 1, 0, 1, 1}}, 9, []int{961, 1}},
		{[]part{{3, 1, 0, 1, 1}, {4, 1, 0, 1, 1}, {5, 1, 0, 1, 1}, {6, 1, 0, 1, 1}}, 9, []int{1, 1, 1, 1}},
	} {
		d := newDisk(4)
		for j, p := range c.l {
			s, err := Pack(p.number, p.life, p.part, p.parts, make([]byte, p.n))
			if err != api.OK {
				t.Fatal(err)
			}
			d.Write((2+j)%4, s)
		}
		_, l := open(t, d, 0, 4, 3, 2, c.life)
		var got []int
		for _, b := range l {
			got = append(got, len(b))
		}
		if !slices.Equal(got, c.want) {
			t.Errorf("P1202: %d: %v, not %v", i, got, c.want)
		}
	}
}

func TestRingTellsTheDisksError(t *testing.T) {
	d := newDisk(4)
	r, _ := open(t, d, 0, 4, 0, 0, 0)
	d.Arm(2)
	if n, err := r.Append(fill(500, 1)); n != 0 || err != api.ErrDown {
		t.Errorf("P1202: Append: %v", err)
	}
	if err := r.Flush(); err != api.ErrDown {
		t.Errorf("P1202: Flush: %v", err)
	}
}

func TestMemory(t *testing.T) {
	d := newDisk(4)
	r, _ := open(t, d, 0, 4, 0, 0, 0)
	b := []byte("abc")
	add(t, r, b)
	b[0] = 'x'
	got, _ := r.Read(0)
	got[1] = 'y'
	if again, _ := r.Read(0); string(again) != "abc" {
		t.Errorf("P2: %q", again)
	}
	r2, l := open(t, d, 0, 4, 0, 0, 0)
	l[0][0] = 'z'
	if again, _ := r2.Read(0); string(again) != "abc" {
		t.Errorf("P2: %q", again)
	}
}

// TestPowerGoes lets the power go at any place, and holds what is found against what was appended.
func TestPowerGoes(t *testing.T) {
	for seed := int64(0); seed < 400; seed++ {
		rnd := rand.New(rand.NewSource(seed))
		d := newDisk(9)
		first, place := uint64(rnd.Intn(5)), rnd.Intn(9)
		var sure, all [][]byte // from first on: up to the last Flush, and all
		for life := uint32(1); life < 12; life++ {
			r, l := open(t, d, 0, 9, first, place, life)
			if len(l) < len(sure) || len(l) > len(all) {
				t.Fatalf("P1203: %d: %d records, not %d to %d", seed, len(l), len(sure), len(all))
			}
			for i, b := range l {
				if !bytes.Equal(b, all[i]) {
					t.Fatalf("P1203: %d: record %d is not what was appended", seed, i)
				}
			}
			r.Flush() // what was found stays
			if len(l) == 0 {
				add(t, r, []byte{byte(life)}) // a record that is kept is flushed
				r.Flush()
				l = [][]byte{{byte(life)}}
			}
			sure, all = l, slices.Clone(l)
			d.Arm(1+rnd.Intn(12), rnd.Intn(4), rnd.Intn(4), rnd.Intn(4), rnd.Intn(4), rnd.Intn(4))
			for !d.Off() {
				if rnd.Intn(3) == 0 {
					if r.Flush() == api.OK {
						sure = slices.Clone(all)
					}
				}
				if len(sure) > 2 && r.Room() < 3 {
					r.Trim(r.Next() - uint64(len(all)) + 1)
					sure, all = sure[1:], all[1:]
					first, place = r.First()
				}
				b := make([]byte, rnd.Intn(1000))
				rnd.Read(b)
				if Need(len(b)) <= r.Room() {
					all = append(all, b)
					r.Append(b)
				} else {
					r.Flush()
				}
			}
			d.On()
		}
	}
}
