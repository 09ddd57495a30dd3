package bits

import (
	"bytes"
	"math"
	"math/rand"
	"slices"
	"testing"
)

func TestNew(t *testing.T) {
	for n, want := range map[int]int{0: 0, -1: 0, math.MinInt: 0, 1: 1, 8: 1, 9: 2, 1 << 20: 1 << 17, 1<<20 + 1: 0, math.MaxInt: 0} {
		m := New(n)
		if len(m) != want || m.Count() != 0 {
			t.Errorf("P1301: New(%d): %d bytes", n, len(m))
		}
	}
}

func TestHas(t *testing.T) {
	m := Map{0x01, 0x80}
	for i, want := range map[int]bool{0: true, 1: false, 7: false, 8: false, 15: true, 16: false, -1: false, math.MaxInt: false, math.MinInt: false} {
		if m.Has(i) != want {
			t.Errorf("P1301: Has(%d)", i)
		}
	}
}

func TestSetAndUnset(t *testing.T) {
	for _, c := range []struct {
		from, n int
		turned  int
		want    Map
	}{
		{0, 0, 0, Map{0, 0}}, {0, 1, 1, Map{1, 0}}, {7, 2, 2, Map{0x80, 1}}, {14, 9, 2, Map{0, 0xC0}}, {0, math.MaxInt, 16, Map{255, 255}},
		{15, math.MaxInt, 1, Map{0, 0x80}}, {16, 1, 0, Map{0, 0}}, {-1, 5, 0, Map{0, 0}}, {0, -1, 0, Map{0, 0}}, {math.MaxInt, math.MaxInt, 0, Map{0, 0}},
		{math.MinInt, math.MinInt, 0, Map{0, 0}},
	} {
		m := New(16)
		if n := m.Set(c.from, c.n); n != c.turned || !bytes.Equal(m, c.want) {
			t.Errorf("P1301: Set(%d, %d): %d, %v", c.from, c.n, n, m)
		}
		if n := m.Set(c.from, c.n); n != 0 {
			t.Errorf("P1301: Set again: %d", n)
		}
		full := Map{255, 255}
		if n := full.Unset(c.from, c.n); n != c.turned || !bytes.Equal(Or(full, m), Map{255, 255}) || And(full, m).Count() != 0 {
			t.Errorf("P1301: Unset(%d, %d): %d, %v", c.from, c.n, n, full)
		}
	}
	if New(9).Set(9, 7) != 7 {
		t.Error("P1301: all bits of the map's bytes are there")
	}
}

func TestNext(t *testing.T) {
	m := Map{0x10, 0xFF, 0x02}
	for _, c := range []struct {
		from int
		set  bool
		at   int
		ok   bool
	}{
		{0, true, 4, true}, {-7, true, 4, true}, {4, true, 4, true}, {5, true, 8, true}, {16, true, 17, true}, {18, true, 0, false},
		{0, false, 0, true}, {4, false, 5, true}, {8, false, 16, true}, {17, false, 18, true}, {23, false, 23, true}, {24, false, 0, false},
		{math.MaxInt, true, 0, false}, {math.MinInt, false, 0, true},
	} {
		if at, ok := m.Next(c.from, c.set); at != c.at || ok != c.ok {
			t.Errorf("P1301: Next(%d, %v): %d, %v", c.from, c.set, at, ok)
		}
	}
	if at, ok := (Map{255}).Next(0, false); at != 0 || ok {
		t.Errorf("P1301: %d, %v", at, ok)
	}
	if _, ok := Map(nil).Next(0, false); ok {
		t.Error("P1301: of nothing")
	}
}

func TestRuns(t *testing.T) {
	for _, c := range []struct {
		m    Map
		want [][2]int
	}{
		{nil, nil}, {Map{0, 0}, nil}, {Map{255, 255}, [][2]int{{0, 16}}}, {Map{0x83, 0x01, 0x80}, [][2]int{{0, 2}, {7, 2}, {23, 1}}},
	} {
		if l := c.m.Runs(); !slices.Equal(l, c.want) {
			t.Errorf("P1301: %v: %v", c.m, l)
		}
	}
}

func TestTwoMaps(t *testing.T) {
	a, b := Map{0x0F, 0x33}, Map{0x3C}
	for _, c := range []struct {
		name      string
		got, want Map
	}{
		{"Or", Or(a, b), Map{0x3F, 0x33}}, {"Or", Or(b, a), Map{0x3F, 0x33}}, {"And", And(a, b), Map{0x0C, 0}}, {"And", And(b, a), Map{0x0C, 0}},
		{"Less", Less(a, b), Map{0x03, 0x33}}, {"Less", Less(b, a), Map{0x30, 0}},
	} {
		if !bytes.Equal(c.got, c.want) {
			t.Errorf("P1301: %s: %v", c.name, c.got)
		}
	}
	if !Same(Map{1}, Map{1, 0, 0}) || Same(Map{1}, Map{1, 0, 1}) || Same(Map{1}, Map{3}) || !Same(nil, Map{0}) || !Same(nil, nil) {
		t.Error("P1301: Same")
	}
	or := Or(a, nil)
	or[0] = 99
	if a[0] != 0x0F {
		t.Error("P2: an answer is new memory")
	}
}

func TestAgainstAPlainRow(t *testing.T) {
	r := rand.New(rand.NewSource(8))
	m, row := New(77), make([]bool, 80)
	for i := 0; i < 2000; i++ {
		from, n, set := r.Intn(90)-5, r.Intn(20)-2, r.Intn(2) == 0
		want := 0
		for j := from; from >= 0 && j < min(from+n, 80); j++ {
			if row[j] != set {
				row[j] = set
				want++
			}
		}
		got := 0
		if set {
			got = m.Set(from, n)
		} else {
			got = m.Unset(from, n)
		}
		count, runs := 0, 0
		for j, x := range row {
			if x {
				count++
				if j == 0 || !row[j-1] {
					runs++
				}
			}
			if m.Has(j) != x {
				t.Fatalf("P1301: %d", j)
			}
		}
		if got != want || m.Count() != count || len(m.Runs()) != runs {
			t.Fatalf("P1301: %d, %d, %d", got, m.Count(), len(m.Runs()))
		}
	}
}
