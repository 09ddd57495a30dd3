package store

import (
	"bytes"
	"math"
	"math/rand"
	"testing"

	"gemel/api"
	"gemel/disk"
)

func formatted(t *testing.T) *disk.Disk {
	t.Helper()
	d, _ := disk.New(Least())
	if err := Format(d); err != api.OK {
		t.Fatalf("P2201: Format: %v", err)
	}
	return d
}

func open(t *testing.T, d *disk.Disk) *Store {
	t.Helper()
	s, err := Open(d)
	if err != api.OK {
		t.Fatalf("P2201: Open: %v", err)
	}
	return s
}

func fill(n int, x byte) []byte { return bytes.Repeat([]byte{x}, n) }

func add(t *testing.T, s *Store, data []byte) {
	t.Helper()
	if err := s.Append(Entry{s.Last() + 1, 9, data}); err != api.OK {
		t.Fatalf("P2201: Append: %v", err)
	}
}

// state is all that a store tells.
type state struct {
	epoch, base, last uint64
	snapshot          string
	entries           string
}

func tell(t *testing.T, s *Store) state {
	t.Helper()
	base, snapshot := s.Base()
	x := state{epoch: s.Epoch(), base: base, last: s.Last(), snapshot: string(snapshot)}
	for i := base + 1; i <= s.Last(); i++ {
		e, ok := s.Entry(i)
		if !ok || e.Index != i {
			t.Fatalf("P2201: Entry(%d): %+v, %v", i, e, ok)
		}
		x.entries += string(e.Data) + "|" + string(rune('0'+e.Epoch)) + "|"
	}
	return x
}

func TestFormatAndOpen(t *testing.T) {
	d := formatted(t)
	if x := tell(t, open(t, d)); x != (state{}) {
		t.Errorf("P2201: %+v", x)
	}
	small, _ := disk.New(Least() - 1)
	if err := Format(small); err != api.ErrArg {
		t.Errorf("P2201: a small disk: %v", err)
	}
	if s, err := Open(small); err != api.ErrForm || s != nil {
		t.Errorf("P2201: a small disk: %v", err)
	}
	blank, _ := disk.New(Least())
	if s, err := Open(blank); err != api.ErrForm || s != nil {
		t.Errorf("P2201: a disk of noughts: %v", err)
	}
	blank.Crash()
	if s, err := Open(blank); err != api.ErrDown || s != nil {
		t.Errorf("P2201: %v", err)
	}
	if err := Format(blank); err != api.ErrDown {
		t.Errorf("P2201: %v", err)
	}
	blank.Die()
	if _, err := Open(blank); err != api.ErrDead {
		t.Errorf("P2201: %v", err)
	}
}

func TestFormatOverAnElderStore(t *testing.T) {
	d := formatted(t)
	s := open(t, d)
	for range 5 {
		add(t, s, []byte("elder"))
	}
	s.SetEpoch(4)
	if Format(d) != api.OK {
		t.Fatal("P2201: Format")
	}
	for range 3 {
		if x := tell(t, open(t, d)); x != (state{}) {
			t.Errorf("P2201: %+v", x)
		}
	}
}

func TestEpoch(t *testing.T) {
	d := formatted(t)
	s := open(t, d)
	if s.SetEpoch(5) != api.OK || s.Epoch() != 5 {
		t.Error("P2201: SetEpoch")
	}
	calls := d.Calls()
	if s.SetEpoch(5) != api.OK || d.Calls() != calls {
		t.Error("P2201: the same: nothing is written")
	}
	if err := s.SetEpoch(4); err != api.ErrStale || s.Epoch() != 5 || d.Calls() != calls {
		t.Errorf("P2201: below it: %v", err)
	}
	if open(t, d).Epoch() != 5 {
		t.Error("P2201: what is told OK lasts")
	}
}

func TestAppend(t *testing.T) {
	d := formatted(t)
	s := open(t, d)
	for i, e := range []Entry{{0, 1, nil}, {2, 1, nil}, {1, 1, fill(2049, 1)}} {
		if err := s.Append(e); err != api.ErrArg || s.Last() != 0 {
			t.Errorf("P2201: %d: %v", i, err)
		}
	}
	data := []byte("abc")
	if err := s.Append(Entry{1, 7, data}); err != api.OK {
		t.Fatal(err)
	}
	data[0] = 'x'
	if err := s.Append(Entry{2, 3, fill(2048, 2)}); err != api.OK {
		t.Fatal(err)
	}
	e, ok := s.Entry(1)
	if !ok || e.Index != 1 || e.Epoch != 7 || string(e.Data) != "abc" {
		t.Errorf("P2201: %+v", e)
	}
	e.Data[0] = 'y'
	if e, _ := s.Entry(1); string(e.Data) != "abc" {
		t.Error("P2: an answer is new memory")
	}
	for _, i := range []uint64{0, 3, math.MaxUint64} {
		if e, ok := s.Entry(i); ok || e.Index != 0 || e.Epoch != 0 || e.Data != nil {
			t.Errorf("P2201: Entry(%d)", i)
		}
	}
	before := tell(t, s)
	d.Crash()
	d.On()
	if x := tell(t, open(t, d)); x != before || x.last != 2 {
		t.Errorf("P2201: what is told OK lasts: %+v", x)
	}
}

func TestRoom(t *testing.T) {
	d := formatted(t)
	s := open(t, d)
	for round := range 20 { // wherever they begin in the journal
		for range 64 {
			add(t, s, fill(512, byte(round)))
		}
		if err := s.Compact(s.Last()-uint64(round%3), []byte{byte(round)}); err != api.OK {
			t.Fatalf("P2201: Compact: %v", err)
		}
		if err := s.Compact(s.Last(), nil); err != api.OK {
			t.Fatalf("P2201: Compact: %v", err)
		}
	}
	n := 0
	for ; n < 1000; n++ {
		if err := s.Append(Entry{s.Last() + 1, 1, fill(2048, 1)}); err != api.OK {
			if err != api.ErrFull {
				t.Errorf("P2201: no room: %v", err)
			}
			break
		}
	}
	if n == 1000 {
		t.Error("P2201: there is always room")
	}
	before := tell(t, s)
	if x := tell(t, open(t, d)); x != before {
		t.Error("P5: ErrFull changes nothing")
	}
}

func TestCompact(t *testing.T) {
	d := formatted(t)
	s := open(t, d)
	for i := range 5 {
		add(t, s, []byte{byte('a' + i)})
	}
	snapshot := fill(24576, 3)
	if err := s.Compact(3, snapshot); err != api.OK {
		t.Fatal(err)
	}
	snapshot[0] = 9
	want := state{base: 3, last: 5, snapshot: string(fill(24576, 3)), entries: "d|9|e|9|"}
	if x := tell(t, s); x != want {
		t.Errorf("P2201: %d to %d, %q", x.base, x.last, x.entries)
	}
	if x := tell(t, open(t, d)); x != want {
		t.Errorf("P2201: opened: %d to %d, %q", x.base, x.last, x.entries)
	}
	for _, i := range []uint64{2, 6, math.MaxUint64} {
		if err := s.Compact(i, fill(24577, 1)); err != api.ErrArg {
			t.Errorf("P2201: Compact(%d): %v", i, err)
		}
	}
	if err := s.Compact(4, fill(24577, 1)); err != api.ErrLong {
		t.Errorf("P2201: a long one: %v", err)
	}
	s = open(t, d)
	if s.Compact(3, []byte("same")) != api.OK || s.Compact(5, nil) != api.OK {
		t.Error("P2201: at the base, and at the last")
	}
	if x := tell(t, open(t, d)); x != (state{base: 5, last: 5}) {
		t.Errorf("P2201: %+v", x)
	}
	_, b := s.Base()
	if len(b) != 0 {
		t.Error("P2201: Base")
	}
}

func TestInstall(t *testing.T) {
	d := formatted(t)
	s := open(t, d)
	s.SetEpoch(4)
	for range 5 {
		add(t, s, []byte("x"))
	}
	if err := s.Install(3, 9, fill(24577, 1)); err != api.ErrStale {
		t.Errorf("P2201: %v", err)
	}
	if err := s.Install(4, 9, fill(24577, 1)); err != api.ErrLong || s.Last() != 5 {
		t.Errorf("P2201: %v", err)
	}
	if err := s.Install(4, 2, []byte("snap")); err != api.OK {
		t.Fatal(err)
	}
	want := state{epoch: 4, base: 2, last: 2, snapshot: "snap"}
	if x := tell(t, s); x != want {
		t.Errorf("P2201: %+v", x)
	}
	if x := tell(t, open(t, d)); x != want {
		t.Errorf("P2201: opened: %+v", x)
	}
	s = open(t, d)
	add(t, s, []byte("y"))
	if s.Install(8, math.MaxUint64-5, nil) != api.OK || s.Last() != math.MaxUint64-5 || s.Epoch() != 8 {
		t.Error("P2201: any index")
	}
	add(t, s, []byte("z"))
	if x := tell(t, open(t, d)); x.entries != "z|9|" || x.last != math.MaxUint64-4 {
		t.Errorf("P2201: %+v", x)
	}
}

// call does one call of some kind, and tells whether it was OK.
func call(t *testing.T, s *Store, r *rand.Rand) api.Errno {
	switch r.Intn(6) {
	case 0:
		return s.SetEpoch(s.Epoch() + uint64(r.Intn(2)))
	case 1:
		return s.Install(s.Epoch()+uint64(r.Intn(2)), s.Last()+uint64(r.Intn(3)), fill(r.Intn(3)*700, byte(r.Intn(256))))
	case 2:
		base, _ := s.Base()
		return s.Compact(base+uint64(r.Intn(int(s.Last()-base)+1)), fill(r.Intn(3)*700, byte(r.Intn(256))))
	}
	return s.Append(Entry{s.Last() + 1, uint64(r.Intn(9)), fill(r.Intn(1500), byte(r.Intn(256)))})
}

func TestPowerGoes(t *testing.T) {
	for seed := int64(0); seed < 150; seed++ {
		r := rand.New(rand.NewSource(seed))
		d := formatted(t)
		for range 30 {
			s := open(t, d)
			calls := 1 + r.Intn(4)
			for range calls - 1 {
				if err := call(t, s, r); err != api.OK && err != api.ErrFull {
					t.Fatalf("P2201: %v", err)
				}
			}
			before := tell(t, s)
			again := r.Int63()
			apart := d.Twin() // what the call leads to, where the power stays
			other := open(t, apart)
			call(t, other, rand.New(rand.NewSource(again)))
			behind := tell(t, other)
			d.Arm(1+r.Intn(8), r.Intn(3), r.Intn(3), r.Intn(3), r.Intn(3), r.Intn(3))
			err := call(t, s, rand.New(rand.NewSource(again)))
			d.Crash(r.Intn(2), r.Intn(2), r.Intn(2))
			d.On()
			after := tell(t, open(t, d))
			if err == api.OK && after != behind || after != before && after != behind {
				t.Fatalf("P2202: %d: %v: %+v, not %+v or %+v", seed, err, after, before, behind)
			}
		}
	}
}

func TestTwoLivesThatBreakOff(t *testing.T) {
	d := formatted(t)
	for i, picks := range [][]int{{0, 1}, {1, 0}} { // of an entry's two sectors one lasts, then the other one
		s := open(t, d)
		d.Arm(3, picks...)
		if err := s.Append(Entry{1, 1, fill(600, byte(i+1))}); err != api.ErrDown {
			t.Fatalf("P2202: %v", err)
		}
		d.On()
	}
	if x := tell(t, open(t, d)); x != (state{}) {
		t.Errorf("P2202: an entry of two lives: %+v", x)
	}
}

func TestPowerGoesInOpen(t *testing.T) {
	d := formatted(t)
	s := open(t, d)
	add(t, s, []byte("x"))
	before := tell(t, s)
	for n := 1; n < 3; n++ {
		d.Arm(n, 1)
		if s, err := Open(d); err != api.ErrDown || s != nil {
			t.Errorf("P2202: %v", err)
		}
		d.On()
		if x := tell(t, open(t, d)); x != before {
			t.Errorf("P2202: %+v", x)
		}
	}
}
