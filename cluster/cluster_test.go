package cluster

import (
	"bytes"
	"math"
	"math/rand"
	"reflect"
	"slices"
	"testing"

	"gemel/api"
	"gemel/crc"
	"gemel/node"
	"gemel/trace"
	"gemel/witness"
)

func seeds() []int64 {
	var l []int64
	for i := range int64(40) {
		l = append(l, i)
	}
	return l
}

func fresh(t *testing.T, hosts, blocks int) *Cluster {
	t.Helper()
	x, err := New(hosts, blocks)
	if err != api.OK {
		t.Fatalf("P2601: New(%d, %d): %v", hosts, blocks, err)
	}
	return x
}

func step(t *testing.T, x *Cluster, e Event, want api.Errno) {
	t.Helper()
	now := x.Now()
	if err := x.Step(e); err != want {
		t.Fatalf("P2601: %+v: %v, not %v", e, err, want)
	}
	if want == api.OK {
		now++
	}
	if x.Now() != now {
		t.Fatalf("P2601: %+v: Now is %d, not %d", e, x.Now(), now)
	}
}

func calm(t *testing.T, x *Cluster, rounds int) {
	t.Helper()
	step(t, x, Event{Op: Calm, N: rounds}, api.OK)
}

func check(t *testing.T, x *Cluster, blocks int) {
	t.Helper()
	if at, err := trace.Check(blocks, x.Invokes(), x.Commits(), x.Completions()); err != api.OK {
		t.Fatalf("P2602: trace.Check: %d, %v", at, err)
	}
}

func pending(x *Cluster) int {
	n := 0
	for host := range x.Machines() - 3 {
		n += x.Pending(host)
	}
	return n
}

var ready = api.Command{Kind: api.TestReady}

func TestNew(t *testing.T) {
	for _, c := range [][2]int{{0, 1}, {5, 1}, {1, 0}, {1, 65}, {-1, 1}, {1, math.MinInt}, {math.MaxInt, 1}} {
		if x, err := New(c[0], c[1]); err != api.ErrArg || x != nil {
			t.Errorf("P2601: New(%v): %v", c, err)
		}
		if x, err := Run(c[0], c[1], nil); err != api.ErrArg || x != nil {
			t.Errorf("P2601: Run(%v): %v", c, err)
		}
	}
	x := fresh(t, 4, 64)
	if x.Machines() != 7 || x.Now() != 0 || x.Waiting() != 0 || len(x.Invokes())+len(x.Commits())+len(x.Completions()) != 0 {
		t.Error("P2601: a new one")
	}
	for who := -1; who < 9; who++ {
		if x.Up(who) != (who >= 0 && who < 7) || x.Pending(who) != 0 {
			t.Errorf("P2601: Up(%d)", who)
		}
	}
}

func TestADay(t *testing.T) {
	x := fresh(t, 1, 16)
	c := api.Command{Kind: api.Write, At: 2, N: 1, Data: []byte("12345678")}
	step(t, x, Event{Op: Submit, C: c}, api.OK)
	c.Data[0] = 'x'
	c.Data = []byte("12345678")
	if l := x.Invokes(); len(l) != 1 || !reflect.DeepEqual(l[0], trace.Invoke{Host: 0, ID: 1, C: c, At: 1}) || x.Waiting() != 1 || x.Pending(0) != 1 {
		t.Errorf("P2601: %+v", l)
	}
	calm(t, x, 100)
	step(t, x, Event{Op: Submit, C: api.Command{Kind: api.Read, At: 2, N: 1}}, api.OK)
	calm(t, x, 10)
	l := x.Completions()
	if len(l) != 2 || string(l[1].Reply.Data) != "12345678" || l[0].At != 2 || l[1].At != 4 || l[1].ID != 2 {
		t.Fatalf("P2601: %+v", l)
	}
	if row := x.Commits(); !slices.Equal(row, []trace.Commit{{Host: 0, ID: 1, At: 2}, {Host: 0, ID: 2, At: 4}}) {
		t.Errorf("P2602: %+v", row)
	}
	l[1].Reply.Data[0] = 'x'
	x.Invokes()[0].C.Data[0] = 'x'
	x.Commits()[0].At = 99
	if string(x.Completions()[1].Reply.Data) != "12345678" || x.Invokes()[0].C.Data[0] != '1' || x.Commits()[0].At != 2 {
		t.Error("P2: an answer is new memory")
	}
	check(t, x, 16)
}

func TestEventsThatMayNotBe(t *testing.T) {
	x := fresh(t, 2, 16)
	sealed := crc.Seal([]byte("x"))
	for _, e := range []Event{
		{}, {Op: -1}, {Op: 12}, {Op: math.MaxInt},
		{Op: Submit, Who: -1, C: ready}, {Op: Submit, Who: 2, C: ready}, {Op: Submit},
		{Op: Tick, Who: -1}, {Op: Tick, Who: 5},
		{Op: Crash, Who: 1}, {Op: Crash, Who: 5}, {Op: Crash, Who: -1},
		{Op: Start, Who: 1}, {Op: Start, Who: 2}, {Op: Start, Who: 4}, {Op: Start, Who: 5},
		{Op: Die, Who: 1}, {Op: Die, Who: 4}, {Op: Die, Who: 5}, {Op: Die, Who: -1},
		{Op: Replace, Who: 2}, {Op: Replace, Who: 4}, {Op: Replace, Who: 0}, {Op: Replace, Who: 9},
		{Op: Rogue, Who: 0, N: 16}, {Op: Rogue, Who: 5, N: 16}, {Op: Rogue, Who: 2, N: 15}, {Op: Rogue, Who: 4, N: -1}, {Op: Rogue, Who: 3, N: 16, Data: sealed},
		{Op: Calm, N: -1}, {Op: Calm, N: 1001},
	} {
		step(t, x, e, api.ErrArg)
	}
	for _, n := range []int{-1, 0, math.MaxInt} {
		for _, op := range []int{Deliver, Drop, Copy} {
			step(t, x, Event{Op: op, N: n}, api.ErrNone)
		}
	}
	calm(t, x, 0)
	step(t, x, Event{Op: Rogue, Who: 4, N: 16, Data: []byte("abc")}, api.OK)
	for range 4 {
		step(t, x, Event{Op: Submit, Who: 1, C: ready}, api.OK)
	}
	step(t, x, Event{Op: Submit, Who: 1, C: ready}, api.ErrFull)
}

func TestMachinesThatAreDown(t *testing.T) {
	x := fresh(t, 1, 16)
	for _, who := range []int{1, 2, 3} {
		step(t, x, Event{Op: Crash, Who: who, Picks: []int{1, 2}}, api.OK)
		if x.Up(who) {
			t.Error("P2601: Crash")
		}
		step(t, x, Event{Op: Crash, Who: who}, api.ErrDown)
		step(t, x, Event{Op: Tick, Who: who}, api.ErrDown)
		step(t, x, Event{Op: Rogue, Who: who, N: 1}, api.ErrDown)
		step(t, x, Event{Op: Start, Who: who}, api.OK)
		if !x.Up(who) {
			t.Error("P2601: Start")
		}
		step(t, x, Event{Op: Start, Who: who}, api.ErrArg)
		step(t, x, Event{Op: Tick, Who: who}, api.OK)
	}
	step(t, x, Event{Op: Die, Who: 1}, api.OK)
	step(t, x, Event{Op: Start, Who: 1}, api.ErrDead)
	step(t, x, Event{Op: Die, Who: 1}, api.OK)
	step(t, x, Event{Op: Replace, Who: 1}, api.OK)
	if x.Up(1) {
		t.Error("P2601: it is down still")
	}
	step(t, x, Event{Op: Replace, Who: 1}, api.ErrArg)
	step(t, x, Event{Op: Start, Who: 1}, api.OK)
	step(t, x, Event{Op: Crash, Who: 2}, api.OK)
	step(t, x, Event{Op: Die, Who: 2}, api.OK)
}

func TestPackets(t *testing.T) {
	x := fresh(t, 1, 16)
	step(t, x, Event{Op: Submit, C: ready}, api.OK)
	step(t, x, Event{Op: Copy}, api.OK)
	step(t, x, Event{Op: Copy, N: 1}, api.OK)
	if x.Waiting() != 3 {
		t.Errorf("P2601: %d wait", x.Waiting())
	}
	step(t, x, Event{Op: Drop, N: 2}, api.OK)
	step(t, x, Event{Op: Crash, Who: 1}, api.OK)
	step(t, x, Event{Op: Deliver, N: 1}, api.OK) // lost
	step(t, x, Event{Op: Start, Who: 1}, api.OK)
	if x.Waiting() != 1 {
		t.Errorf("P2601: %d wait", x.Waiting())
	}
	step(t, x, Event{Op: Deliver}, api.OK) // a hint comes back
	if p, ok := x.wire.Packet(0); !ok || p.From != 1 || p.To != 0 {
		t.Errorf("P2601: %+v", p)
	}
	for range 5000 {
		x.Step(Event{Op: Copy})
	}
	if x.Waiting() != 4096 || x.Now() != 5008 {
		t.Errorf("P2601: a Copy without room is OK: %d, %d", x.Waiting(), x.Now())
	}
	calm(t, x, 10)
}

func TestRogues(t *testing.T) {
	x, y := fresh(t, 1, 16), fresh(t, 1, 16)
	r := rand.New(rand.NewSource(1))
	for i := range 200 {
		b := node.Request(0, uint64(i+1), 1, ready)
		b[r.Intn(len(b))] ^= 1
		step(t, x, Event{Op: Rogue, Who: 1 + i%3, N: 16 + i%3, Data: b[:r.Intn(len(b))+1]}, api.OK)
		y.Step(Event{Op: Calm})
		if i%20 == 0 {
			x.Step(Event{Op: Submit, C: ready})
			y.Step(Event{Op: Submit, C: ready})
			calm(t, x, 8)
			calm(t, y, 8)
		}
	}
	if !reflect.DeepEqual(x.Commits(), y.Commits()) || !reflect.DeepEqual(x.Completions(), y.Completions()) || len(x.Commits()) == 0 {
		t.Error("P2604: rogue bytes turn nothing")
	}
}

// some tells an event of any kind.
func some(r *rand.Rand, hosts int, deaths bool) Event {
	who := hosts + r.Intn(3)
	n := r.Intn(3)
	switch k := r.Intn(100); {
	case k < 15:
		c := api.Command{Kind: 1 + r.Intn(18), At: r.Intn(10), N: n, Key: uint64(r.Intn(3)), New: uint64(r.Intn(3)), Type: r.Intn(7)}
		if c.Kind == api.Write || c.Kind == api.Compare {
			c.Data = bytes.Repeat([]byte{byte(r.Intn(3))}, 8*n*(c.Kind/6+1))
		}
		return Event{Op: Submit, Who: r.Intn(hosts), C: c}
	case k < 40:
		return Event{Op: Tick, Who: r.Intn(hosts + 3)}
	case k < 43:
		return Event{Op: Drop, N: r.Intn(10)}
	case k < 46:
		return Event{Op: Copy, N: r.Intn(10)}
	case k < 48 && r.Intn(4) == 0:
		return Event{Op: Crash, Who: who, Picks: []int{r.Intn(3), r.Intn(3)}}
	case k < 52:
		return Event{Op: Start, Who: who}
	case k == 52 && deaths && r.Intn(6) == 0:
		return Event{Op: Die, Who: who}
	case k == 53 && deaths:
		return Event{Op: Replace, Who: who}
	case k == 54 && r.Intn(4) == 0:
		return Event{Op: Calm, N: r.Intn(12)}
	case k == 55:
		return Event{Op: Rogue, Who: who, N: 16 + r.Intn(4), Data: []byte{1, 2, 3, 4, 5}}
	}
	return Event{Op: Deliver, N: r.Intn(1 + r.Intn(10))}
}

func startAll(x *Cluster) {
	for who := range x.Machines() {
		x.Step(Event{Op: Start, Who: who})
	}
}

func submitAll(t *testing.T, x *Cluster) {
	for host := range x.Machines() - 3 {
		step(t, x, Event{Op: Submit, Who: host, C: api.Command{Kind: api.Read, N: 2}}, api.OK)
	}
}

// members tells how the register stands.
func members(t *testing.T, x *Cluster) int {
	t.Helper()
	d := x.disks[2].Twin()
	d.On()
	w, err := witness.Open(d)
	if err != api.OK {
		t.Fatal(err)
	}
	return w.Get().Members
}

func TestStormyDays(t *testing.T) {
	for _, seed := range seeds() {
		r := rand.New(rand.NewSource(seed))
		hosts, blocks := 1+r.Intn(4), 12+r.Intn(53)
		x := fresh(t, hosts, blocks)
		for range 3 {
			for range 1200 {
				x.Step(some(r, hosts, false))
			}
			check(t, x, blocks)
			startAll(x)
			calm(t, x, 400)
			if pending(x) != 0 {
				t.Fatalf("P2603: %d: %d commands are pending", seed, pending(x))
			}
			who := hosts + r.Intn(2)
			op := Crash + r.Intn(2)*(Die-Crash)
			step(t, x, Event{Op: op, Who: who}, api.OK)
			submitAll(t, x)
			calm(t, x, 400)
			if pending(x) != 0 {
				t.Fatalf("P2603: %d: one node is lost: %d commands are pending", seed, pending(x))
			}
			x.Step(Event{Op: Replace, Who: who})
			step(t, x, Event{Op: Start, Who: who}, api.OK)
			calm(t, x, 400)
			if members(t, x) != 3 {
				t.Fatalf("P2603: %d: a node that was started is no member", seed)
			}
			check(t, x, blocks)
		}
		if len(x.Completions()) < 30 {
			t.Fatalf("P2602: %d: %d completions", seed, len(x.Completions()))
		}
	}
}

func TestDaysWithDeaths(t *testing.T) {
	for _, seed := range seeds() {
		r := rand.New(rand.NewSource(seed))
		hosts, blocks := 1+r.Intn(4), 12+r.Intn(53)
		var l []Event
		for range 3000 {
			l = append(l, some(r, hosts, true))
		}
		x, err := Run(hosts, blocks, l)
		if err != api.OK {
			t.Fatal(err)
		}
		check(t, x, blocks)
		y, _ := Run(hosts, blocks, l)
		if !reflect.DeepEqual(x.Commits(), y.Commits()) || !reflect.DeepEqual(x.Completions(), y.Completions()) || x.Now() != y.Now() {
			t.Fatalf("P3: %d: the same events tell something else", seed)
		}
	}
}

func TestWithoutTheWitness(t *testing.T) {
	x := fresh(t, 2, 16)
	calm(t, x, 100)
	step(t, x, Event{Op: Crash, Who: 4}, api.OK)
	submitAll(t, x)
	calm(t, x, 400)
	if pending(x) != 0 {
		t.Errorf("P2603: %d commands are pending", pending(x))
	}
	other := 2
	if x.nodes[0].Primary() {
		other = 3
	}
	step(t, x, Event{Op: Crash, Who: other}, api.OK)
	step(t, x, Event{Op: Start, Who: other}, api.OK)
	submitAll(t, x)
	calm(t, x, 400)
	if pending(x) != 0 {
		t.Errorf("P2603: the one that is not primary was started again: %d commands are pending", pending(x))
	}
	check(t, x, 16)
}

func TestANewDiskAtOnce(t *testing.T) {
	for who := 2; who < 4; who++ {
		x := fresh(t, 2, 16)
		for round := range 6 {
			calm(t, x, 60*(round%2)+1)
			submitAll(t, x)
			if round%3 == 2 {
				calm(t, x, 400) // both are members, and have all
				if pending(x) != 0 || members(t, x) != 3 {
					t.Fatalf("P2603: %d pending, members %d", pending(x), members(t, x))
				}
			}
		}
		submitAll(t, x)
		step(t, x, Event{Op: Die, Who: who}, api.OK)
		step(t, x, Event{Op: Replace, Who: who}, api.OK)
		step(t, x, Event{Op: Start, Who: who}, api.OK)
		calm(t, x, 400)
		if pending(x) != 0 || members(t, x) != 3 {
			t.Fatalf("P2603: %d pending, members %d", pending(x), members(t, x))
		}
		check(t, x, 16)
	}
}
