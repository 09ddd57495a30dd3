package task

import (
	"math"
	"math/rand"
	"slices"
	"testing"

	"gemel/api"
)

func fresh(t *testing.T, most int) *Set {
	t.Helper()
	s, err := New(most)
	if err != api.OK {
		t.Fatalf("P1601: New(%d): %v", most, err)
	}
	return s
}

func expect(t *testing.T, s *Set, enabled, waiting []uint32) {
	t.Helper()
	if e := s.Enabled(); !slices.Equal(e, enabled) {
		t.Errorf("P1601: Enabled: %v, not %v", e, enabled)
	}
	if w := s.Waiting(); !slices.Equal(w, waiting) {
		t.Errorf("P1601: Waiting: %v, not %v", w, waiting)
	}
}

func do(t *testing.T, err api.Errno) {
	t.Helper()
	if err != api.OK {
		t.Errorf("P1601: %v", err)
	}
}

func TestNew(t *testing.T) {
	for _, n := range []int{0, -1, 257, math.MaxInt} {
		if s, err := New(n); err != api.ErrArg || s != nil {
			t.Errorf("P1601: New(%d): %v", n, err)
		}
	}
	fresh(t, 256)
	if s := fresh(t, 1); s.Put(1, Simple) != api.OK || s.Put(2, Simple) != api.ErrFull {
		t.Error("P1601: a set of one")
	}
}

func TestPut(t *testing.T) {
	s := fresh(t, 2)
	do(t, s.Put(5, Simple))
	for _, c := range []struct {
		tag  uint32
		attr int
	}{{6, 3}, {6, -1}, {5, Simple}, {5, 9}} {
		if err := s.Put(c.tag, c.attr); err != api.ErrArg || s.Len() != 1 {
			t.Errorf("P1601: Put(%d, %d): %v", c.tag, c.attr, err)
		}
	}
	do(t, s.Put(0, Head))
	if err := s.Put(7, Simple); err != api.ErrFull || s.Len() != 2 {
		t.Errorf("P1601: one more: %v", err)
	}
	if err := s.Put(5, Simple); err != api.ErrArg {
		t.Errorf("P6: ErrArg is ahead of ErrFull: %v", err)
	}
	expect(t, s, []uint32{0}, []uint32{0, 5})
}

func TestSimpleOnes(t *testing.T) {
	s := fresh(t, 9)
	do(t, s.Put(3, Simple))
	do(t, s.Put(1, Simple))
	do(t, s.Put(2, Simple))
	expect(t, s, []uint32{3, 1, 2}, []uint32{3, 1, 2})
	do(t, s.Start(1))
	expect(t, s, []uint32{3, 2}, []uint32{3, 2})
	do(t, s.Done(1))
	if s.Len() != 2 {
		t.Error("P1601: it is there no more")
	}
}

func TestOrderedOnes(t *testing.T) {
	s := fresh(t, 9)
	do(t, s.Put(1, Simple))
	do(t, s.Put(2, Ordered))
	do(t, s.Put(3, Simple))
	do(t, s.Put(4, Ordered))
	expect(t, s, []uint32{1}, []uint32{1, 2, 3, 4})
	do(t, s.Start(1))
	expect(t, s, nil, []uint32{2, 3, 4})
	do(t, s.Done(1))
	expect(t, s, []uint32{2}, []uint32{2, 3, 4})
	do(t, s.Start(2))
	expect(t, s, nil, []uint32{3, 4})
	do(t, s.Done(2))
	expect(t, s, []uint32{3}, []uint32{3, 4})
	do(t, s.Start(3))
	do(t, s.Done(3))
	expect(t, s, []uint32{4}, []uint32{4})
}

func TestHeads(t *testing.T) {
	s := fresh(t, 9)
	do(t, s.Put(1, Simple))
	do(t, s.Put(2, Simple))
	do(t, s.Put(3, Simple))
	do(t, s.Start(2))
	do(t, s.Put(4, Head)) // ahead of 1, so of 2 too
	expect(t, s, []uint32{4}, []uint32{4, 1, 3})
	do(t, s.Put(5, Head))
	expect(t, s, []uint32{5, 4}, []uint32{5, 4, 1, 3})
	do(t, s.Start(5))
	do(t, s.Put(6, Head)) // behind 5, that is started
	expect(t, s, []uint32{6, 4}, []uint32{6, 4, 1, 3})
	do(t, s.Done(5))
	do(t, s.Start(6))
	do(t, s.Start(4))
	expect(t, s, nil, []uint32{1, 3})
	do(t, s.Done(6))
	do(t, s.Done(4))
	expect(t, s, []uint32{1, 3}, []uint32{1, 3})
	do(t, s.Start(1))
	do(t, s.Start(3))
	do(t, s.Put(7, Head)) // none is not started: behind all
	do(t, s.Put(8, Ordered))
	expect(t, s, []uint32{7}, []uint32{7, 8})
}

func TestStartAndDone(t *testing.T) {
	s := fresh(t, 9)
	do(t, s.Put(1, Ordered))
	do(t, s.Put(2, Simple))
	if err := s.Start(9); err != api.ErrNone {
		t.Errorf("P1601: Start: %v", err)
	}
	if err := s.Start(2); err != api.ErrArg {
		t.Errorf("P1601: Start of one that may not: %v", err)
	}
	if err := s.Done(9); err != api.ErrNone {
		t.Errorf("P1601: Done: %v", err)
	}
	if err := s.Done(1); err != api.ErrArg || s.Len() != 2 {
		t.Errorf("P1601: Done of one not started: %v", err)
	}
	do(t, s.Start(1))
	if err := s.Start(1); err != api.ErrArg {
		t.Errorf("P1601: Start of one that is: %v", err)
	}
	if !s.Abort(1) || s.Abort(1) || !s.Abort(2) || s.Len() != 0 {
		t.Error("P1601: Abort")
	}
}

// TestEnabledByTheWords holds Enabled against the chapter's words on sets of all kinds.
func TestEnabledByTheWords(t *testing.T) {
	r := rand.New(rand.NewSource(11))
	type task struct {
		tag     uint32
		attr    int
		started bool
	}
	for round := 0; round < 200; round++ {
		s := fresh(t, 8)
		var row []task
		for i := 0; i < 40; i++ {
			if len(row) < 8 {
				x := task{uint32(i), r.Intn(3), false}
				at := len(row)
				for j := range row {
					if x.attr == Head && !row[j].started {
						at = j
						break
					}
				}
				row = slices.Insert(row, at, x)
				do(t, s.Put(x.tag, x.attr))
			}
			var enabled, waiting []uint32
			for j, x := range row {
				behind := slices.ContainsFunc(row[:j], func(y task) bool { return y.attr != Simple })
				if x.started {
					continue
				}
				waiting = append(waiting, x.tag)
				if x.attr == Head || x.attr == Ordered && j == 0 || x.attr == Simple && !behind {
					enabled = append(enabled, x.tag)
				}
			}
			expect(t, s, enabled, waiting)
			j := r.Intn(len(row))
			x := &row[j]
			may := slices.Contains(enabled, x.tag)
			if err := s.Start(x.tag); (err == api.OK) != may {
				t.Fatalf("P1601: Start: %v", err)
			}
			x.started = x.started || may
			if x.started && r.Intn(2) == 0 {
				do(t, s.Done(x.tag))
				row = slices.Delete(row, j, j+1)
			}
		}
	}
}
