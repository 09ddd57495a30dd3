package disk

import (
	"bytes"
	"math"
	"testing"

	"gemel/api"
)

func fresh(t *testing.T, n int) *Disk {
	t.Helper()
	d, err := New(n)
	if err != api.OK {
		t.Fatalf("P801: New(%d): %v", n, err)
	}
	return d
}

// first tells the first byte of a sector.
func first(t *testing.T, d *Disk, n int) byte {
	t.Helper()
	b, err := d.Read(n)
	if err != api.OK || len(b) != api.Sector {
		t.Fatalf("P801: Read(%d): %v", n, err)
	}
	return b[0]
}

// write lays one byte into each of the sectors.
func write(t *testing.T, d *Disk, x byte, l ...int) {
	t.Helper()
	for _, n := range l {
		if err := d.Write(n, []byte{x}); err != api.OK {
			t.Fatalf("P801: Write(%d): %v", n, err)
		}
	}
}

func TestNew(t *testing.T) {
	for _, n := range []int{0, -1, 4097, math.MaxInt, math.MinInt} {
		if d, err := New(n); err != api.ErrArg || d != nil {
			t.Errorf("P801: New(%d): %v", n, err)
		}
	}
	d := fresh(t, 4096)
	if d.Sectors() != 4096 || d.Off() || d.Dead() || d.Waiting() != 0 || d.Calls() != 0 || first(t, d, 4095) != 0 {
		t.Error("P801: a new disk")
	}
	fresh(t, 1)
}

func TestReadAndWrite(t *testing.T) {
	d := fresh(t, 3)
	b := bytes.Repeat([]byte{7}, api.Sector)
	if err := d.Write(2, b); err != api.OK {
		t.Fatalf("P801: %v", err)
	}
	b[0] = 9
	got, _ := d.Read(2)
	if !bytes.Equal(got, bytes.Repeat([]byte{7}, api.Sector)) {
		t.Error("P801: a full sector")
	}
	got[1] = 9
	if again, _ := d.Read(2); again[1] != 7 {
		t.Error("P2: Read's answer is new memory")
	}
	write(t, d, 5, 2)
	if got, _ := d.Read(2); !bytes.Equal(got, append([]byte{5}, make([]byte, api.Sector-1)...)) {
		t.Error("P801: bytes 0 behind")
	}
	if d.Waiting() != 2 || d.Calls() != 2 {
		t.Errorf("P801: %d, %d", d.Waiting(), d.Calls())
	}
	if d.Flush() != api.OK || d.Waiting() != 0 || d.Calls() != 3 || first(t, d, 2) != 5 {
		t.Error("P801: Flush")
	}
}

func TestWhatMayNotBe(t *testing.T) {
	d := fresh(t, 3)
	for _, n := range []int{-1, 3, math.MaxInt, math.MinInt} {
		if b, err := d.Read(n); err != api.ErrArg || b != nil {
			t.Errorf("P801: Read(%d): %v", n, err)
		}
		if err := d.Write(n, nil); err != api.ErrArg {
			t.Errorf("P801: Write(%d): %v", n, err)
		}
	}
	if err := d.Write(0, make([]byte, api.Sector+1)); err != api.ErrArg || d.Waiting() != 0 || d.Calls() != 0 {
		t.Errorf("P801: a long Write: %v", err)
	}
	both := func(want api.Errno) {
		t.Helper()
		if _, err := d.Read(-1); err != want {
			t.Errorf("P801: Read: %v", err)
		}
		if err := d.Write(-1, nil); err != want {
			t.Errorf("P801: Write: %v", err)
		}
		if err := d.Flush(); err != want {
			t.Errorf("P801: Flush: %v", err)
		}
	}
	d.Crash()
	both(api.ErrDown)
	d.Die()
	both(api.ErrDead)
	d.On()
	both(api.ErrDead)
	if d.Calls() != 0 || d.Sectors() != 3 {
		t.Errorf("P802: %d calls", d.Calls())
	}
}

func TestCrashPicks(t *testing.T) {
	// Sectors 1, 4, 5 have two, one, three Writes that wait.
	for _, c := range []struct {
		picks []int
		want  [3]byte
	}{
		{nil, [3]byte{9, 9, 9}},
		{[]int{0, 0, 0}, [3]byte{9, 9, 9}},
		{[]int{1, 1, 1}, [3]byte{1, 1, 1}},
		{[]int{2, 2, 2}, [3]byte{2, 9, 2}},
		{[]int{3, 3, 3}, [3]byte{9, 1, 3}},
		{[]int{-1, -1, -1}, [3]byte{2, 1, 3}},
		{[]int{-3, -2, -5}, [3]byte{9, 9, 3}},
		{[]int{0, 1}, [3]byte{9, 1, 9}},
		{[]int{math.MinInt, math.MaxInt, 5, 6, 7}, [3]byte{1, 1, 1}},
	} {
		d := fresh(t, 6)
		write(t, d, 9, 0, 1, 2, 3, 4, 5)
		d.Flush()
		write(t, d, 1, 5, 4, 1)
		write(t, d, 2, 1, 5)
		write(t, d, 3, 5)
		if d.Waiting() != 6 {
			t.Errorf("P801: %d wait", d.Waiting())
		}
		d.Crash(c.picks...)
		if !d.Off() || d.Waiting() != 0 {
			t.Error("P802: the power goes")
		}
		d.Crash(1, 1, 1)
		d.On()
		if d.Off() || d.Waiting() != 0 {
			t.Error("P802: On")
		}
		got := [3]byte{first(t, d, 1), first(t, d, 4), first(t, d, 5)}
		if got != c.want || first(t, d, 0) != 9 {
			t.Errorf("P802: %v: %v", c.picks, got)
		}
	}
}

func TestDieAndReplace(t *testing.T) {
	d := fresh(t, 2)
	write(t, d, 1, 0)
	d.Flush()
	write(t, d, 2, 1)
	d.Die()
	if !d.Dead() || d.Off() || d.Waiting() != 0 {
		t.Error("P802: Die")
	}
	d.Crash()
	if !d.Off() || !d.Dead() {
		t.Error("P802: Crash of a dead disk")
	}
	d.Replace()
	if d.Dead() || !d.Off() || d.Calls() != 3 || d.Sectors() != 2 {
		t.Error("P802: Replace leaves the power as it was")
	}
	d.On()
	if first(t, d, 0) != 0 || first(t, d, 1) != 0 {
		t.Error("P802: a new disk is all 0")
	}
	write(t, d, 3, 0)
	d.Replace()
	if d.Off() || d.Waiting() != 0 || first(t, d, 0) != 0 || d.Calls() != 4 {
		t.Error("P802: Replace of one that is not dead")
	}
}

func TestArm(t *testing.T) {
	d := fresh(t, 2)
	d.Arm(3, 1, 1)
	write(t, d, 1, 0)
	d.Write(-1, nil)
	d.Read(0)
	write(t, d, 2, 1)
	if err := d.Write(0, []byte{3}); err != api.ErrDown || !d.Off() || d.Calls() != 2 || d.Waiting() != 0 {
		t.Errorf("P802: the third call: %v", err)
	}
	d.On()
	if first(t, d, 0) != 1 || first(t, d, 1) != 2 {
		t.Error("P802: what the picks say lasts")
	}
	write(t, d, 4, 0)
	d.Arm(1, 1)
	if err := d.Flush(); err != api.ErrDown || !d.Off() {
		t.Errorf("P802: a Flush: %v", err)
	}
	d.On()
	if first(t, d, 0) != 4 {
		t.Error("P802: a Flush that was not done")
	}
}

func TestAnArmGoes(t *testing.T) {
	for name, end := range map[string]func(d *Disk){
		"an elder one": func(d *Disk) { d.Arm(0) },
		"below 1":      func(d *Disk) { d.Arm(-5) },
		"On":           func(d *Disk) { d.On() },
		"Crash":        func(d *Disk) { d.Crash(); d.On() },
		"Die":          func(d *Disk) { d.Die(); d.Replace() },
		"Replace":      func(d *Disk) { d.Replace() },
		"later":        func(d *Disk) { d.Arm(2) },
	} {
		d := fresh(t, 1)
		d.Arm(1)
		end(d)
		if err := d.Write(0, nil); err != api.OK {
			t.Errorf("P802: %s: %v", name, err)
		}
	}
	d := fresh(t, 1)
	d.Crash()
	d.Arm(1)
	d.On()
	if err := d.Write(0, nil); err != api.OK {
		t.Errorf("P802: an Arm without power goes with On: %v", err)
	}
}

func TestArmKeepsItsOwnPicks(t *testing.T) {
	d := fresh(t, 1)
	picks := []int{1}
	write(t, d, 1, 0)
	d.Arm(1, picks...)
	picks[0] = 0
	d.Flush()
	d.On()
	if first(t, d, 0) != 1 {
		t.Error("P2: what is handed in is not kept")
	}
}

func TestTwin(t *testing.T) {
	d := fresh(t, 2)
	write(t, d, 1, 0)
	d.Flush()
	write(t, d, 2, 0, 1)
	d.Arm(2, 1, 1)
	e := d.Twin()
	if e.Waiting() != 2 || e.Calls() != 4 || e.Sectors() != 2 {
		t.Error("P802: a Twin is as it is")
	}
	write(t, e, 3, 1)
	if err := e.Flush(); err != api.ErrDown {
		t.Errorf("P802: a Twin is armed: %v", err)
	}
	if d.Off() || d.Waiting() != 2 || first(t, d, 1) != 2 {
		t.Error("P802: a Twin is apart")
	}
	e.On()
	if first(t, e, 0) != 2 || first(t, e, 1) != 2 {
		t.Error("P802: what the Twin's picks say")
	}
	if d.Flush() != api.OK || d.Flush() != api.ErrDown {
		t.Error("P802: its own Arm is as it was")
	}
}
