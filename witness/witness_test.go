package witness

import (
	"bytes"
	"math"
	"testing"

	"gemel/api"
	"gemel/disk"
	"gemel/twin"
)

var start = Reg{5, 0, 3}

func formatted(t *testing.T) *disk.Disk {
	t.Helper()
	d, _ := disk.New(2)
	if err := Format(d, start); err != api.OK {
		t.Fatalf("P2301: Format: %v", err)
	}
	return d
}

func open(t *testing.T, d *disk.Disk) *Witness {
	t.Helper()
	w, err := Open(d)
	if err != api.OK {
		t.Fatalf("P2301: Open: %v", err)
	}
	return w
}

func TestRight(t *testing.T) {
	for p := -2; p < 5; p++ {
		for m := -2; m < 9; m++ {
			want := p == 0 && (m == 1 || m == 3) || p == 1 && (m == 2 || m == 3)
			r := Reg{7, p, m}
			if Right(r) != want {
				t.Errorf("P2301: Right(%+v)", r)
			}
			back, err := Decode(Encode(r))
			if want && (back != r || err != api.OK) {
				t.Errorf("P2301: %+v: %+v, %v", r, back, err)
			}
			if !want && (back != Reg{} || err != api.ErrForm) {
				t.Errorf("P2301: %+v: %+v, %v", r, back, err)
			}
		}
	}
	for _, p := range []int{math.MaxInt, math.MinInt} {
		if Right(Reg{1, p, 3}) || Right(Reg{1, 0, p}) {
			t.Error("P2301: Right")
		}
	}
}

func TestEncode(t *testing.T) {
	if b := Encode(Reg{0x0102030405060708, 1, 2}); !bytes.Equal(b, []byte{1, 2, 3, 4, 5, 6, 7, 8, 1, 2}) {
		t.Errorf("P2301: %v", b)
	}
	for _, b := range [][]byte{nil, make([]byte, 9), {0, 0, 0, 0, 0, 0, 0, 1, 0, 1, 0}} {
		if r, err := Decode(b); r != (Reg{}) || err != api.ErrForm {
			t.Errorf("P2301: %v: %v", b, err)
		}
	}
}

func TestFormatAndOpen(t *testing.T) {
	d := formatted(t)
	if w := open(t, d); w.Get() != start {
		t.Errorf("P2301: %+v", w.Get())
	}
	if x, err := twin.Open(d, 0); err != api.OK || !bytes.Equal(x.Value(), Encode(start)) {
		t.Error("P2301: it stands in chapter 11's sectors at 0")
	}
	if err := Format(d, Reg{5, 0, 2}); err != api.ErrArg || open(t, d).Get() != start {
		t.Errorf("P2301: %v", err)
	}
	small, _ := disk.New(1)
	if err := Format(small, start); err != api.ErrArg {
		t.Errorf("P2301: a small disk: %v", err)
	}
	if w, err := Open(small); err != api.ErrArg || w != nil {
		t.Errorf("P2301: a small disk: %v", err)
	}
	blank, _ := disk.New(2)
	if w, err := Open(blank); err != api.ErrForm || w != nil {
		t.Errorf("P2301: a blank disk: %v", err)
	}
	twin.Format(blank, 0, []byte("another one"))
	if w, err := Open(blank); err != api.ErrForm || w != nil {
		t.Errorf("P2301: another one's disk: %v", err)
	}
	blank.Die()
	if _, err := Open(blank); err != api.ErrDead {
		t.Errorf("P2301: a dead disk: %v", err)
	}
	if err := Format(blank, start); err != api.ErrDead {
		t.Errorf("P2301: a dead disk: %v", err)
	}
}

func TestCas(t *testing.T) {
	d := formatted(t)
	w := open(t, d)
	for _, c := range []struct {
		expect uint64
		r      Reg
	}{
		{4, Reg{5, 1, 2}}, {4, Reg{6, 1, 2}}, {6, Reg{7, 1, 2}}, {5, Reg{5, 1, 2}}, {5, Reg{7, 1, 2}}, {5, Reg{6, 1, 1}}, {5, Reg{6, 2, 3}}, {math.MaxUint64, Reg{0, 1, 2}},
	} {
		calls := d.Calls()
		if r, ok, err := w.Cas(c.expect, c.r); r != start || ok || err != api.OK || d.Calls() != calls {
			t.Errorf("P2301: %+v: %+v, %v, %v", c, r, ok, err)
		}
	}
	next := Reg{6, 1, 2}
	if r, ok, err := w.Cas(5, next); r != next || !ok || err != api.OK || w.Get() != next {
		t.Errorf("P2301: %+v, %v, %v", r, ok, err)
	}
	d.Crash()
	d.On()
	if open(t, d).Get() != next {
		t.Error("P2301: durably")
	}
}

func TestTheLastEpoch(t *testing.T) {
	d, _ := disk.New(2)
	last := Reg{math.MaxUint64, 0, 1}
	Format(d, last)
	w := open(t, d)
	if r, ok, err := w.Cas(math.MaxUint64, Reg{0, 0, 1}); r != last || ok || err != api.OK {
		t.Errorf("P2301: %+v, %v, %v", r, ok, err)
	}
}

func TestPowerGoesInCas(t *testing.T) {
	next := Reg{6, 1, 2}
	for n := 1; n <= 2; n++ {
		for pick := range 2 {
			d := formatted(t)
			w := open(t, d)
			d.Arm(n, pick)
			if r, ok, err := w.Cas(5, next); r != start || ok || err != api.ErrDown {
				t.Errorf("P2301: %+v, %v, %v", r, ok, err)
			}
			d.On()
			want := start
			if n == 2 && pick == 1 {
				want = next
			}
			if got := open(t, d).Get(); got != want {
				t.Errorf("P2302: %d, %d: %+v", n, pick, got)
			}
		}
	}
}
