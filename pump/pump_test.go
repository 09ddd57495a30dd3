package pump

import (
	"math"
	"math/rand"
	"runtime"
	"slices"
	"sync"
	"testing"

	"gemel/api"
	"gemel/cluster"
)

func write(who, at int) cluster.Event {
	return cluster.Event{Op: cluster.Submit, Who: who, C: api.Command{Kind: api.Write, At: at, N: 1, Data: make([]byte, 8)}}
}

func calm(n int) cluster.Event { return cluster.Event{Op: cluster.Calm, N: n} }

// days are some of which each goes otherwise.
func days(n int) []Day {
	var l []Day
	for i := range n {
		r := rand.New(rand.NewSource(int64(i)))
		d := Day{Hosts: 1 + i%4, Blocks: 1 + i%64}
		for range 100 {
			d.Events = append(d.Events, write(r.Intn(4), r.Intn(4)), cluster.Event{Op: cluster.Tick, Who: r.Intn(7)}, cluster.Event{Op: cluster.Deliver}, cluster.Event{Op: cluster.Deliver})
			if r.Intn(20) == 0 {
				d.Events = append(d.Events, calm(r.Intn(30)))
			}
		}
		l = append(l, d)
	}
	l[n/2].Hosts = 9
	return l
}

func TestOne(t *testing.T) {
	for _, c := range []struct {
		d    Day
		want Result
	}{
		{Day{Hosts: 0, Blocks: 1}, Result{Err: api.ErrArg}},
		{Day{Hosts: 1, Blocks: 65}, Result{Err: api.ErrArg}},
		{Day{Hosts: 1, Blocks: 1}, Result{}},
		{Day{2, 4, []cluster.Event{write(0, 0), write(1, 1), write(1, 9)}}, Result{Pending: 3}},
		{Day{2, 4, []cluster.Event{write(0, 0), calm(100), write(1, 1), write(1, 9), calm(20), write(0, 0)}}, Result{Commits: 3, Completions: 3, Pending: 1}},
	} {
		if r := One(c.d); r != c.want {
			t.Errorf("P2801: %+v, not %+v", r, c.want)
		}
	}
}

func TestAll(t *testing.T) {
	l := days(20)
	var want []Result
	for _, d := range l {
		want = append(want, One(d))
	}
	if want[10] != (Result{Err: api.ErrArg}) || want[3].Commits == 0 {
		t.Errorf("P2801: %+v", want)
	}
	for crew := 1; crew <= 8; crew++ {
		if got, err := All(crew, l); !slices.Equal(got, want) || err != api.OK {
			t.Errorf("P2801: a crew of %d: %+v, %v", crew, got, err)
		}
	}
	if got, err := All(8, nil); len(got) != 0 || err != api.OK {
		t.Errorf("P2801: of none: %v", err)
	}
	for _, crew := range []int{0, -1, 9, math.MaxInt, math.MinInt} {
		if got, err := All(crew, l); got != nil || err != api.ErrArg {
			t.Errorf("P2801: a crew of %d: %v", crew, err)
		}
	}
}

func TestSome(t *testing.T) {
	l := days(6)
	want, _ := All(1, l)
	for most, n := range map[int]int{0: 0, 1: 1, 5: 5, 6: 6, 7: 6, -1: 0, math.MaxInt: 6, math.MinInt: 0} {
		if got, k, err := Some(3, most, l); !slices.Equal(got, want[:n]) || k != n || err != api.OK {
			t.Errorf("P2801: most %d: %d, %v", most, k, err)
		}
	}
	if got, k, err := Some(9, 2, l); got != nil || k != 0 || err != api.ErrArg {
		t.Errorf("P2801: a crew of 9: %d, %v", k, err)
	}
}

func TestMerge(t *testing.T) {
	for _, c := range [][3][]int{
		{nil, nil, nil}, {{1}, nil, {1}}, {nil, {1, 1}, {1, 1}}, {{1, 3, 5}, {2, 3, 9, 10}, {1, 2, 3, 3, 5, 9, 10}}, {{5, 6}, {1, 2}, {1, 2, 5, 6}},
		{{math.MinInt, 0}, {math.MinInt, math.MaxInt}, {math.MinInt, math.MinInt, 0, math.MaxInt}},
	} {
		if got := Merge(c[0], c[1]); !slices.Equal(got, c[2]) {
			t.Errorf("P2801: %v and %v: %v", c[0], c[1], got)
		}
	}
	if got := Merge([]int{3, 1}, []int{2}); len(got) != 3 {
		t.Errorf("P1: rows that do not rise: %v", got)
	}
}

func TestTicks(t *testing.T) {
	for _, n := range []int{0, -1, 4097, math.MaxInt, math.MinInt} {
		if l := Ticks(n, func(i int) int { return i }); len(l) != 0 {
			t.Errorf("P2801: Ticks(%d): %d", n, len(l))
		}
	}
	for _, n := range []int{1, 2, 4096} {
		l := Ticks(n, func(i int) int { return i * i })
		if len(l) != n {
			t.Fatalf("P2801: Ticks(%d): %d", n, len(l))
		}
		for i, x := range l {
			if x != i*i {
				t.Errorf("P2801: Ticks(%d): %d at %d", n, x, i)
			}
		}
	}
	var all sync.WaitGroup // each waits for the others: they are goroutines
	all.Add(50)
	Ticks(50, func(i int) int {
		all.Done()
		all.Wait()
		return i
	})
}

func TestNoneIsLeft(t *testing.T) {
	before := runtime.NumGoroutine()
	for range 50 {
		All(8, days(3))
		Merge([]int{1, 2}, []int{3})
		Ticks(100, func(i int) int { return i })
	}
	for range 1000 {
		runtime.Gosched()
	}
	if n := runtime.NumGoroutine(); n > before+2 {
		t.Errorf("P2801: %d goroutines are left", n-before)
	}
}
