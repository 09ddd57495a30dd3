package node

import (
	"bytes"
	"math/rand"
	"reflect"
	"slices"
	"testing"

	"gemel/api"
	"gemel/disk"
	"gemel/lu"
	"gemel/store"
	"gemel/witness"
)

const simBlocks = 12

// packet is one on its way; machines are 0, 1 (nodes), 2 (the witness), 16 and more (initiators).
type packet struct {
	from, to int
	data     []byte
}

type name struct {
	host int
	id   uint64
}

type toldReply struct {
	name name
	r    api.Reply
	at   int // how many commits were seen by then
}

// sim is two nodes, a witness and what is seen of them.
type sim struct {
	t     *testing.T
	r     *rand.Rand
	disks [3]*disk.Disk
	nodes [2]*Node
	judge *Judge1
	salt  uint32
	wire  []packet
	old   []packet // all that ever were on their way
	asked map[name]order
	row   map[uint64]Commit
	seen  map[name]uint64
	when  map[name]int // how many steps there were when it was first told
	said  [2]uint64    // the last index that this life of a node told
	step  int
	told  []toldReply
	got   map[name]bool
	next  [3]uint64
}

func newSim(t *testing.T, seed int64) *sim {
	s := &sim{t: t, r: rand.New(rand.NewSource(seed)), asked: map[name]order{}, row: map[uint64]Commit{}, seen: map[name]uint64{}, when: map[name]int{}, got: map[name]bool{}}
	for i := range s.disks {
		s.disks[i], _ = disk.New(store.Least())
		if i < 2 {
			if err := Format(s.disks[i]); err != api.OK {
				t.Fatal(err)
			}
		}
	}
	witness.Format(s.disks[2], witness.Reg{Epoch: 1, Primary: 0, Members: 3})
	for i := range 3 {
		s.start(i)
	}
	return s
}

// start opens a machine; it may fail, if its disk does.
func (s *sim) start(i int) {
	s.disks[i].On()
	s.salt++
	if i == 2 {
		s.judge, _ = OpenJudge(s.disks[2])
		return
	}
	n, err := Open(i, simBlocks, s.disks[i], s.salt)
	if err == api.OK {
		s.nodes[i] = n
		s.said[i] = 0
	}
}

func (s *sim) stop(i int, picks ...int) {
	s.disks[i].Crash(picks...)
	if i == 2 {
		s.judge = nil
	} else {
		s.nodes[i] = nil
	}
}

// look takes what a machine tells.
func (s *sim) look(i int) {
	s.step++
	if i == 2 {
		for _, p := range s.judge.Out() {
			s.wire = append(s.wire, packet{2, p.To, p.Data})
		}
		return
	}
	for _, c := range s.nodes[i].Commits() {
		s.commit(i, c)
	}
	for _, p := range s.nodes[i].Out() {
		to := p.To
		if to == Peer {
			to = 1 - i
		}
		s.wire = append(s.wire, packet{i, to, p.Data})
		if len(p.Data) > 8192 {
			s.t.Fatal("a packet is longer than the network takes")
		}
	}
}

func (s *sim) commit(i int, c Commit) {
	if c.Index <= s.said[i] {
		s.t.Fatalf("P2401: node %d tells %d behind %d", i, c.Index, s.said[i])
	}
	s.said[i] = c.Index
	k := name{c.Host, c.ID}
	if was, there := s.row[c.Index]; there && !reflect.DeepEqual(was, c) {
		s.t.Fatalf("P2402: index %d: %+v and %+v", c.Index, was, c)
	}
	if at, there := s.seen[k]; there && at != c.Index {
		s.t.Fatalf("P2402: %+v at %d and %d", k, at, c.Index)
	}
	o, there := s.asked[k]
	if !there || !reflect.DeepEqual(o.c, c.C) {
		s.t.Fatalf("P2402: %+v was not asked so", c)
	}
	if _, there := s.when[k]; !there {
		s.when[k] = s.step
	}
	s.row[c.Index] = c
	s.seen[k] = c.Index
}

// bring lets a packet come.
func (s *sim) bring(p packet) {
	if p.to >= Client {
		host, id, r, done, hint, ok := Answer(p.data)
		if !ok || host != p.to-Client || !done && (hint < -1 || hint > 1) {
			s.t.Fatal("P2401: what an initiator is told is no Answer")
		}
		if done {
			k := name{host, id}
			if at, there := s.when[k]; !there || at > s.step {
				s.t.Fatalf("P2402: %+v is told ahead of its Commit", k)
			}
			s.told = append(s.told, toldReply{k, r, s.step})
			s.got[k] = true
		}
		return
	}
	from := p.from
	switch {
	case p.to == 2 && s.judge != nil:
		s.judge.In(from, p.data)
		s.after(2)
	case p.to < 2 && s.nodes[p.to] != nil:
		if from == 1-p.to {
			from = Peer
		} else if from == 2 {
			from = Judge
		}
		s.nodes[p.to].In(from, p.data)
		s.after(p.to)
	}
}

// after looks at a machine, and puts it out if its disk failed.
func (s *sim) after(i int) {
	s.look(i)
	if i == 2 && s.judge.Broken() || i < 2 && s.nodes[i].Broken() {
		s.stop(i)
	}
}

func (s *sim) tick(i int) {
	if s.nodes[i] != nil {
		s.nodes[i].Tick()
		s.after(i)
	}
}

// request lets a host ask a node for a command, maybe one that it asked for already.
func (s *sim) request() {
	host := s.r.Intn(3)
	least := uint64(1)
	for least <= s.next[host] && s.got[name{host, least}] {
		least++
	}
	id := least
	if s.next[host] < least+3 && s.r.Intn(2) == 0 {
		s.next[host]++
		id = s.next[host]
		n := s.r.Intn(4)
		c := api.Command{Kind: 1 + s.r.Intn(18), At: s.r.Intn(10), N: n, Key: uint64(s.r.Intn(3)), New: uint64(s.r.Intn(3)), Type: s.r.Intn(7)}
		if c.Kind == api.Write || c.Kind == api.Compare {
			c.Data = bytes.Repeat([]byte{byte(s.r.Intn(3))}, 8*n*(c.Kind/6+1))
		}
		if len(c.Data) == 0 {
			c.Data = nil
		}
		s.asked[name{host, id}] = order{host, id, 0, c}
	} else if least <= s.next[host] {
		id = least + uint64(s.r.Intn(int(s.next[host]-least)+1))
	} else {
		return
	}
	o := s.asked[name{host, id}]
	s.wire = append(s.wire, packet{Client + host, s.r.Intn(2), Request(host, id, least, o.c)})
}

func (s *sim) picks() []int { return []int{s.r.Intn(3), s.r.Intn(3), s.r.Intn(3), s.r.Intn(3)} }

// storm does one thing of all that may happen.
func (s *sim) storm(deaths bool) {
	switch k := s.r.Intn(100); {
	case k < 30:
		s.tick(s.r.Intn(2))
	case k < 45:
		s.request()
	case k < 48 && len(s.wire) > 0:
		i := s.r.Intn(len(s.wire))
		s.wire = slices.Delete(s.wire, i, i+1)
	case k < 52 && len(s.wire) > 0:
		s.wire = append(s.wire, s.wire[s.r.Intn(len(s.wire))])
	case k == 52 && s.r.Intn(3) == 0:
		i := s.r.Intn(3)
		s.disks[i].Arm(1+s.r.Intn(6), s.picks()...)
	case k == 53 && s.r.Intn(4) == 0:
		i := s.r.Intn(3)
		s.stop(i, s.picks()...)
	case k < 58:
		for i := range 3 {
			if (i == 2 && s.judge == nil || i < 2 && s.nodes[i] == nil) && !s.disks[i].Dead() && s.r.Intn(3) == 0 {
				s.start(i)
			}
		}
	case k == 58 && deaths && s.r.Intn(10) == 0:
		i := s.r.Intn(2)
		s.disks[i].Die()
		s.stop(i)
		s.disks[i].Replace()
	case k < 63 && len(s.old) > 0:
		s.bring(s.old[s.r.Intn(len(s.old))])
	default:
		if len(s.wire) > 0 {
			i := s.r.Intn(min(len(s.wire), 1+s.r.Intn(12)))
			p := s.wire[i]
			s.wire = slices.Delete(s.wire, i, i+1)
			s.old = append(s.old, p)
			s.bring(p)
		}
	}
	if len(s.wire) > 300 {
		s.wire = s.wire[100:]
	}
}

// calm is a round in which all ticks and all comes.
func (s *sim) calm() {
	for i := range 2 {
		s.tick(i)
	}
	for n := 0; len(s.wire) > 0; n++ {
		if n > 2000 {
			s.t.Fatal("a round does not end")
		}
		p := s.wire[0]
		s.wire = s.wire[1:]
		s.bring(p)
	}
}

// rows holds what was told against one unit.
func (s *sim) rows() {
	var l []uint64
	for i := range s.row {
		l = append(l, i)
	}
	slices.Sort(l)
	u, _ := lu.New(simBlocks)
	want := map[name]api.Reply{}
	for _, i := range l {
		c := s.row[i]
		want[name{c.Host, c.ID}] = u.Do(c.Host, c.C)
	}
	for _, x := range s.told {
		if r, there := want[x.name]; !there || !lu.Same(r, x.r) {
			s.t.Fatalf("P2402: %+v is told %+v, not %+v", x.name, x.r, r)
		}
	}
}

func (s *sim) reg() witness.Reg {
	d := s.disks[2].Twin()
	d.On()
	w, err := witness.Open(d)
	if err != api.OK {
		s.t.Fatal(err)
	}
	return w.Get()
}

// askAll asks both nodes for all that was not told.
func (s *sim) askAll() int {
	waits := 0
	for host := range 3 {
		least := uint64(1)
		for least <= s.next[host] && s.got[name{host, least}] {
			least++
		}
		for id := least; id <= s.next[host]; id++ {
			if o := s.asked[name{host, id}]; !s.got[name{host, id}] {
				waits++
				for i := range 2 {
					s.wire = append(s.wire, packet{Client + host, i, Request(host, id, least, o.c)})
				}
			}
		}
	}
	return waits
}

func (s *sim) startAll() {
	for i, d := range s.disks {
		d.Arm(0)
		if i == 2 && s.judge == nil || i < 2 && s.nodes[i] == nil {
			s.start(i)
		}
	}
}

// calmDown lets all come to rest, and holds it against the bounds.
func (s *sim) calmDown(what string, rounds int) {
	s.t.Helper()
	s.wire = nil
	for range rounds {
		s.calm()
	}
	if s.reg().Members != 3 {
		s.t.Fatalf("P2401: %s: not both are members: %+v", what, s.reg())
	}
	for range 200 {
		if s.askAll() == 0 {
			break
		}
		s.calm()
	}
	if n := s.askAll(); n > 0 {
		s.t.Fatalf("P2401: %s: %d commands are not told", what, n)
	}
	s.wire = nil
	if s.reg().Members != 3 {
		s.t.Fatalf("P2401: %s: not both are members still: %+v", what, s.reg())
	}
}

func stormy(t *testing.T, seed int64, deaths bool) {
	s := newSim(t, seed)
	for range 4 {
		for range 1500 {
			s.storm(deaths)
		}
		if !deaths {
			s.startAll()
			s.calmDown("behind a storm", 100)
			s.lose()
		}
	}
	s.rows()
}

// lose puts a node out, maybe for good, and holds it against the bound.
func (s *sim) lose() {
	i := s.r.Intn(2)
	s.stop(i)
	for host := range 3 {
		s.next[host]++
		s.asked[name{host, s.next[host]}] = order{host, s.next[host], 0, api.Command{Kind: api.Read, N: 1}}
	}
	for range 200 {
		if s.askAll() == 0 {
			break
		}
		s.calm()
	}
	if n := s.askAll(); n > 0 {
		s.t.Fatalf("P2401: one node is lost: %d commands are not told", n)
	}
	if s.r.Intn(2) == 0 {
		s.disks[i].Die()
		s.disks[i].Replace()
	}
	s.start(i)
	s.calmDown("one node began anew", 100)
	s.lookBoth()
}

// lookBoth lets the primary alone with the other one, without the witness, and starts the other one again.
func (s *sim) lookBoth() {
	p := s.reg().Primary
	s.stop(2)
	s.stop(1 - p)
	s.calm()
	s.start(1 - p)
	s.next[0]++
	s.asked[name{0, s.next[0]}] = order{0, s.next[0], 0, api.Command{Kind: api.Read, N: 1}}
	for range 200 {
		if s.askAll() == 0 {
			break
		}
		s.calm()
	}
	if n := s.askAll(); n > 0 {
		s.t.Fatalf("P2603: without the witness %d commands are not told", n)
	}
	s.start(2)
}

func TestStorms(t *testing.T) {
	for seed := range int64(60) {
		stormy(t, seed, false)
		stormy(t, seed+1000000, true)
	}
}
