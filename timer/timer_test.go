package timer

import (
	"math"
	"math/rand"
	"slices"
	"testing"

	"gemel/api"
)

func TestSet(t *testing.T) {
	x := New()
	for _, after := range []int{0, -1, 1<<30 + 1, math.MaxInt, math.MinInt} {
		if err := x.Set(1, after); err != api.ErrArg || x.Len() != 0 {
			t.Errorf("P1001: Set(1, %d): %v", after, err)
		}
	}
	for _, id := range []int{1, 0, -1, math.MaxInt, math.MinInt} {
		if err := x.Set(id, 1<<30); err != api.OK {
			t.Errorf("P1001: Set(%d): %v", id, err)
		}
		if n, ok := x.Left(id); n != 1<<30 || !ok {
			t.Errorf("P1001: Left(%d): %d, %v", id, n, ok)
		}
	}
	if n, ok := x.Next(); n != 1<<30 || !ok || x.Len() != 5 {
		t.Errorf("P1001: Next: %d, %v", n, ok)
	}
}

func TestTick(t *testing.T) {
	x := New()
	x.Set(5, 2)
	x.Set(-3, 2)
	x.Set(4, 1)
	x.Set(9, 3)
	x.Set(9, 2)
	if l := x.Tick(); !slices.Equal(l, []int{4}) || x.Now() != 1 {
		t.Errorf("P1001: %v", l)
	}
	if n, ok := x.Left(9); n != 1 || !ok {
		t.Errorf("P1001: Left: %d, %v", n, ok)
	}
	if l := x.Tick(); !slices.Equal(l, []int{-3, 5, 9}) || x.Len() != 0 {
		t.Errorf("P1001: %v", l)
	}
	if l := x.Tick(); len(l) != 0 || x.Now() != 3 {
		t.Errorf("P1001: %v", l)
	}
	if n, ok := x.Next(); n != 0 || ok {
		t.Errorf("P1001: Next of none: %d, %v", n, ok)
	}
	if n, ok := x.Left(9); n != 0 || ok {
		t.Errorf("P1001: Left of none: %d, %v", n, ok)
	}
}

func TestStop(t *testing.T) {
	x := New()
	x.Set(1, 1)
	if !x.Stop(1) || x.Stop(1) || x.Stop(2) || x.Len() != 0 || len(x.Tick()) != 0 {
		t.Error("P1001: Stop")
	}
}

func TestFull(t *testing.T) {
	x := New()
	for i := 0; i < 256; i++ {
		if err := x.Set(i, 5); err != api.OK {
			t.Fatalf("P1001: %d: %v", i, err)
		}
	}
	if err := x.Set(256, 1); err != api.ErrFull || x.Len() != 256 {
		t.Errorf("P1001: one more: %v", err)
	}
	if err := x.Set(256, 0); err != api.ErrArg {
		t.Errorf("P6: ErrArg is ahead of ErrFull: %v", err)
	}
	if err := x.Set(7, 1); err != api.OK || !slices.Equal(x.Tick(), []int{7}) {
		t.Errorf("P1001: one that is set: %v", err)
	}
	if err := x.Set(256, 1); err != api.OK {
		t.Errorf("P1001: room again: %v", err)
	}
}

func TestAgainstAPlainList(t *testing.T) {
	r := rand.New(rand.NewSource(7))
	x := New()
	due := map[int]int{}
	now := 0
	for i := 0; i < 5000; i++ {
		id := r.Intn(40)
		switch r.Intn(4) {
		case 0, 1:
			after := 1 + r.Intn(12)
			due[id] = now + after
			x.Set(id, after)
		case 2:
			_, was := due[id]
			delete(due, id)
			if x.Stop(id) != was {
				t.Fatal("P1001: Stop")
			}
		case 3:
			now++
			var want []int
			for id, at := range due {
				if at == now {
					want = append(want, id)
					delete(due, id)
				}
			}
			slices.Sort(want)
			if l := x.Tick(); !slices.Equal(l, want) {
				t.Fatalf("P1001: Tick %d: %v, not %v", now, l, want)
			}
		}
		next, some := 0, false
		for _, at := range due {
			if !some || at-now < next {
				next, some = at-now, true
			}
		}
		if n, ok := x.Next(); n != next || ok != some || x.Len() != len(due) || x.Now() != now {
			t.Fatalf("P1001: Next: %d, %v", n, ok)
		}
	}
}
