package trace

import (
	"bytes"
	"testing"

	"gemel/api"
	"gemel/lu"
)

func write(host int, id uint64, x byte, at int) Invoke {
	return Invoke{host, id, api.Command{Kind: api.Write, N: 1, Data: bytes.Repeat([]byte{x}, 8)}, at}
}

func read(host int, id uint64, at int) Invoke {
	return Invoke{host, id, api.Command{Kind: api.Read, N: 1}, at}
}

func told(host int, id uint64, x byte, at int) Completion {
	return Completion{host, id, api.Reply{Data: bytes.Repeat([]byte{x}, 8)}, at}
}

// day is what was seen: two hosts, of which one writes.
func day() ([]Invoke, []Commit, []Completion) {
	return []Invoke{write(0, 1, 7, 1), read(1, 1, 2), read(0, 2, 3), read(1, 9, 4)},
		[]Commit{{1, 1, 5}, {0, 1, 5}, {0, 2, 8}},
		[]Completion{{0, 1, api.Reply{}, 5}, told(1, 1, 0, 6), told(0, 2, 7, 8)}
}

func TestADay(t *testing.T) {
	in, row, out := day()
	if at, err := Order(in, row, out); at != 0 || err != api.OK {
		t.Errorf("P2701: Order: %d, %v", at, err)
	}
	if at, err := Check(4, in, row, out); at != 0 || err != api.OK {
		t.Errorf("P2701: Check: %d, %v", at, err)
	}
	if at, err := Check(4, nil, nil, nil); at != 0 || err != api.OK {
		t.Errorf("P2701: of nothing: %d, %v", at, err)
	}
	l, err := Replay(4, in, row)
	if err != api.OK || len(l) != 3 || !lu.Same(l[0], out[1].Reply) || !lu.Same(l[1], api.Reply{}) || !lu.Same(l[2], out[2].Reply) {
		t.Errorf("P2701: Replay: %+v, %v", l, err)
	}
}

func TestOrderAndCheck(t *testing.T) {
	for i, c := range []struct {
		turn func(in []Invoke, row []Commit, out []Completion) ([]Invoke, []Commit, []Completion)
		at   int
		err  api.Errno
	}{
		{func(in []Invoke, row []Commit, out []Completion) ([]Invoke, []Commit, []Completion) {
			return append(in, read(1, 9, 9), read(0, 1, 9)), nil, out
		}, 4, api.ErrArg},
		{func(in []Invoke, row []Commit, out []Completion) ([]Invoke, []Commit, []Completion) {
			return append(in, read(0, 1, 9)), []Commit{{5, 5, 5}}, out
		}, 4, api.ErrArg},
		{func(in []Invoke, row []Commit, out []Completion) ([]Invoke, []Commit, []Completion) {
			row[1].ID = 3
			return in, row, nil
		}, 1, api.ErrNone},
		{func(in []Invoke, row []Commit, out []Completion) ([]Invoke, []Commit, []Completion) {
			row[1].Host, row[1].At = 2, 0
			return in, row, nil
		}, 1, api.ErrNone},
		{func(in []Invoke, row []Commit, out []Completion) ([]Invoke, []Commit, []Completion) {
			return in, append(row, Commit{0, 1, 9}), out
		}, 3, api.ErrForm},
		{func(in []Invoke, row []Commit, out []Completion) ([]Invoke, []Commit, []Completion) {
			row[2].At = 4
			return in, row, out
		}, 2, api.ErrForm},
		{func(in []Invoke, row []Commit, out []Completion) ([]Invoke, []Commit, []Completion) {
			row[0].At = 1
			return in, row, out
		}, 0, api.ErrForm},
		{func(in []Invoke, row []Commit, out []Completion) ([]Invoke, []Commit, []Completion) {
			in[2].At = 9
			return in, row, out
		}, 2, api.ErrForm},
		{func(in []Invoke, row []Commit, out []Completion) ([]Invoke, []Commit, []Completion) {
			return in, row, append(out, told(1, 9, 7, 9))
		}, 3, api.ErrNone},
		{func(in []Invoke, row []Commit, out []Completion) ([]Invoke, []Commit, []Completion) {
			return in, row, append(out, told(0, 2, 7, 9))
		}, 3, api.ErrForm},
		{func(in []Invoke, row []Commit, out []Completion) ([]Invoke, []Commit, []Completion) {
			out[1].At = 4
			return in, row, out
		}, 1, api.ErrForm},
		{func(in []Invoke, row []Commit, out []Completion) ([]Invoke, []Commit, []Completion) {
			row[1].ID = 3
			return in, row, append(out, Completion{7, 7, api.Reply{}, 1})
		}, 1, api.ErrNone},
	} {
		in, row, out := c.turn(day())
		if at, err := Order(in, row, out); at != c.at || err != c.err {
			t.Errorf("P2701: %d: Order: %d, %v", i, at, err)
		}
		if at, err := Check(4, in, row, out); at != c.at || err != c.err {
			t.Errorf("P2701: %d: Check: %d, %v", i, at, err)
		}
	}
}

func TestTimesThatAreTheSame(t *testing.T) {
	in := []Invoke{read(0, 1, 5)}
	if at, err := Order(in, []Commit{{0, 1, 5}}, []Completion{told(0, 1, 0, 5)}); at != 0 || err != api.OK {
		t.Errorf("P2701: %d, %v", at, err)
	}
}

func TestRepliesThatAreOthers(t *testing.T) {
	in, row, out := day()
	out[1], out[2] = out[2], out[1]
	out[1].At, out[2].At = 9, 9
	out[2].Reply = api.Reply{Status: api.Busy}
	if at, err := Check(4, in, row, out); at != 2 || err != api.ErrSum {
		t.Errorf("P2701: %d, %v", at, err)
	}
	in, row, out = day()
	row[0], row[1] = row[1], row[0] // the other way round a read tells something else
	if at, err := Check(4, in, row, out); at != 1 || err != api.ErrSum {
		t.Errorf("P2701: %d, %v", at, err)
	}
}

func TestReplay(t *testing.T) {
	in, row, _ := day()
	for _, n := range []int{0, -1, 1025} {
		if l, err := Replay(n, in, nil); l != nil || err != api.ErrArg {
			t.Errorf("P2701: Replay of %d blocks: %v", n, err)
		}
		if at, err := Check(n, in, row, nil); at != 0 || err != api.ErrArg {
			t.Errorf("P2701: Check of %d blocks: %d, %v", n, at, err)
		}
	}
	if l, err := Replay(0, in, []Commit{{5, 5, 5}}); l != nil || err != api.ErrArg {
		t.Errorf("P6: %v", err)
	}
	if l, err := Replay(4, in, append(row, Commit{5, 5, 5})); l != nil || err != api.ErrNone {
		t.Errorf("P2701: not invoked: %v", err)
	}
	twice := []Invoke{write(0, 1, 7, 1), write(0, 1, 8, 1), read(0, 2, 1)}
	l, err := Replay(4, twice, []Commit{{0, 1, 1}, {0, 2, 1}})
	if err != api.OK || !lu.Same(l[1], told(0, 2, 7, 1).Reply) {
		t.Errorf("P2701: of an Invoke that is there twice the first: %+v, %v", l, err)
	}
}
