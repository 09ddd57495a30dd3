package conn

import (
	"bytes"
	"math/rand"
	"slices"
	"testing"

	"gemel/crc"
)

// pass brings all of a's packets to b.
func pass(a, b *Conn) {
	for _, p := range a.Out() {
		b.In(p)
	}
}

// rounds are P1802's: what came is told in each.
func rounds(n int, a, b *Conn) (atA, atB []byte) {
	for range n {
		a.Tick()
		b.Tick()
		pass(a, b)
		pass(b, a)
		atA = append(atA, a.Recv()...)
		atB = append(atB, b.Recv()...)
	}
	return atA, atB
}

func pair() (*Conn, *Conn) { return New(7, true), New(7, false) }

func row(n int, from byte) []byte {
	b := make([]byte, n)
	for i := range b {
		b[i] = from + byte(i%251)
	}
	return b
}

func TestUp(t *testing.T) {
	a, b := pair()
	if a.Up() || a.Reset() || !a.Idle() || a.Held() != 0 {
		t.Error("P1801: a new end")
	}
	rounds(16, a, b)
	if !a.Up() || !b.Up() || a.Reset() || b.Reset() || !a.Idle() || !b.Idle() {
		t.Error("P1801: both know of each other")
	}
	for range 20 {
		a.Tick()
		b.Tick()
		if len(a.Out())+len(b.Out()) != 0 {
			t.Fatal("P1801: nothing is to be sent")
		}
	}
}

func TestBytesComeInSixteenRounds(t *testing.T) {
	a, b := pair()
	x, y := row(1024, 1), row(700, 9)
	if a.Send(x) != 1024 || b.Send(y) != 700 || a.Idle() || a.Held() != 1024 {
		t.Error("P1801: Send")
	}
	atA, atB := rounds(16, a, b)
	if !bytes.Equal(atA, y) || !bytes.Equal(atB, x) || !a.Idle() || !b.Idle() || a.Held()+b.Held() != 0 {
		t.Errorf("P1802: %d and %d bytes came", len(atA), len(atB))
	}
	a.Send(y)
	if _, atB = rounds(16, a, b); !bytes.Equal(atB, y) {
		t.Errorf("P1802: %d bytes came", len(atB))
	}
}

func TestRoom(t *testing.T) {
	a, b := pair()
	x := row(5000, 3)
	if n := a.Send(x); n != Most {
		t.Errorf("P1801: %d", n)
	}
	if a.Send(x) != 0 || a.Send(nil) != 0 || a.Held() != Most {
		t.Error("P1801: there is no room")
	}
	_, atB := rounds(68, a, b)
	if !bytes.Equal(atB, x[:Most]) || !a.Idle() {
		t.Errorf("P1802: %d bytes came", len(atB))
	}
	if a.Send(x[Most:]) != 5000-Most {
		t.Error("P1801: there is room again")
	}
}

func TestHeldWhereNobodyAsks(t *testing.T) {
	a, b := pair()
	var sent []byte
	for i := range 200 {
		x := row(3000, byte(i))
		sent = append(sent, x[:a.Send(x)]...)
		b.Send(x)
		a.Tick()
		b.Tick()
		pass(a, b)
		if i < 100 {
			pass(b, a)
			a.Recv()
		}
		if b.Held() > 3*Most || a.Held() > 3*Most {
			t.Fatalf("P1801: %d, %d bytes are kept", a.Held(), b.Held())
		}
	}
	var got []byte
	for range 80 {
		_, more := rounds(1, a, b)
		got = append(got, more...)
	}
	if !bytes.Equal(got, sent) || !a.Idle() {
		t.Errorf("P1802: %d of %d bytes came", len(got), len(sent))
	}
}

func TestWhatIsNoPacket(t *testing.T) {
	a, b := pair()
	rounds(16, a, b)
	a.Send(row(10, 0))
	real := a.Out()[0]
	r := rand.New(rand.NewSource(1))
	for i := 0; i < 3000; i++ {
		x := make([]byte, r.Intn(60))
		r.Read(x)
		b.In(x)
		if i%3 == 0 {
			b.In(crc.Seal(x))
		}
	}
	for i := range real {
		x := slices.Clone(real)
		x[i] ^= 1
		b.In(x)
		b.In(real[:i])
	}
	a.In(real) // its own
	if b.Reset() || len(b.Recv()) != 0 || a.Reset() || len(a.Recv()) != 0 {
		t.Error("P1801: what is no packet is nothing")
	}
	b.In(real)
	b.In(real)
	if !bytes.Equal(b.Recv(), row(10, 0)) {
		t.Error("P1801: a packet")
	}
}

func TestAnEndThatBeginsAnew(t *testing.T) {
	a, b := pair()
	a.Send(row(100, 1))
	b.Send(row(50, 2))
	rounds(16, a, b)
	a.Send(row(5, 1))
	b.Send([]byte("still"))
	pass(b, a)
	elder := a.Out()
	b2 := New(8, false)
	for _, p := range elder {
		b2.In(p)
	}
	rounds := func(x, y *Conn) {
		for range 64 {
			x.Tick()
			y.Tick()
			pass(x, y)
			pass(y, x)
		}
	}
	rounds(a, b2)
	if !a.Reset() || a.Up() || a.Idle() || a.Send([]byte{1}) != 0 || len(a.Out()) != 0 {
		t.Error("P1802: it is known as Reset")
	}
	if string(a.Recv()) != "still" || len(b2.Recv()) != 0 {
		t.Error("P1801: Recv tells still what came")
	}
	a2 := New(9, true)
	for _, p := range elder {
		b2.In(p)
	}
	a2.Send([]byte("anew"))
	rounds(a2, b2)
	if !a2.Up() || !b2.Up() || string(b2.Recv()) != "anew" {
		t.Error("P1802: two that began anew")
	}
	for _, p := range elder {
		b2.In(p)
	}
	if len(b2.Recv()) != 0 {
		t.Error("P1802: a packet of an elder life")
	}
}

// wire loses packets, brings them twice and in another order.
type wire struct {
	r *rand.Rand
	l [][]byte
}

func (w *wire) put(l [][]byte) {
	for _, p := range l {
		if w.r.Intn(3) > 0 {
			w.l = append(w.l, p)
		}
	}
}

func (w *wire) bring(to *Conn) {
	for range w.r.Intn(4) {
		if len(w.l) == 0 {
			return
		}
		i := w.r.Intn(len(w.l))
		to.In(w.l[i])
		if w.r.Intn(4) > 0 {
			w.l = slices.Delete(w.l, i, i+1)
		}
	}
	if len(w.l) > 60 {
		w.l = w.l[30:]
	}
}

func TestWhateverIsLost(t *testing.T) {
	for seed := int64(0); seed < 60; seed++ {
		r := rand.New(rand.NewSource(seed))
		a, b := New(r.Uint32(), true), New(r.Uint32(), false)
		ab, ba := &wire{r: r}, &wire{r: r}
		var sentA, sentB, gotA, gotB []byte
		for range 400 {
			if r.Intn(1+int(seed%9)) == 0 { // little, or more than there is room for
				x := row(r.Intn(900), byte(r.Intn(256)))
				sentA = append(sentA, x[:a.Send(x)]...)
				sentB = append(sentB, x[:b.Send(x)]...)
			}
			if r.Intn(2) == 0 {
				a.Tick()
			}
			if r.Intn(2) == 0 {
				b.Tick()
			}
			ab.put(a.Out())
			ba.put(b.Out())
			ab.bring(b)
			ba.bring(a)
			if r.Intn(3) == 0 {
				gotA = append(gotA, a.Recv()...)
				gotB = append(gotB, b.Recv()...)
			}
			if !bytes.HasPrefix(sentA, gotB) || !bytes.HasPrefix(sentB, gotA) {
				t.Fatalf("P1802: %d: what was told is no front", seed)
			}
			if a.Held() > 3*Most || b.Held() > 3*Most {
				t.Fatalf("P1801: %d: %d, %d", seed, a.Held(), b.Held())
			}
		}
		atA, atB := rounds(68, a, b)
		if !bytes.Equal(append(gotB, atB...), sentA) || !bytes.Equal(append(gotA, atA...), sentB) || !a.Idle() || !b.Idle() {
			t.Fatalf("P1802: %d: not all came", seed)
		}
	}
}

// TestLivesAreNotMixed begins ends anew at random, over a wire that keeps elder packets.
func TestLivesAreNotMixed(t *testing.T) {
	for seed := int64(0); seed < 60; seed++ {
		r := rand.New(rand.NewSource(seed))
		life := uint32(0)
		sent := map[byte][]byte{} // by the life's number
		ends := [2]*Conn{New(0, true), New(0, false)}
		lives := [2]byte{0, 0}
		got := [2][]byte{}
		wires := [2]*wire{{r: r}, {r: r}}
		for range 600 {
			i := r.Intn(2)
			c := ends[i]
			if c.Reset() || r.Intn(80) == 0 {
				life++
				lives[i] = byte(life)
				ends[i] = New(life, i == 0)
				got[i] = nil
				continue
			}
			x := bytes.Repeat([]byte{lives[i], byte(i), 0}, 10)
			x[2] = byte(len(sent[lives[i]*2+byte(i)]))
			sent[lives[i]*2+byte(i)] = append(sent[lives[i]*2+byte(i)], x[:c.Send(x)]...)
			c.Tick()
			wires[i].put(c.Out())
			wires[1-i].bring(c)
			got[i] = append(got[i], c.Recv()...)
			if len(got[i]) > 0 && !bytes.HasPrefix(sent[got[i][0]*2+byte(1-i)], got[i]) {
				t.Fatalf("P1802: %d: lives are mixed", seed)
			}
		}
		for i := range ends {
			life++
			ends[i] = New(life, i == 0)
			ends[i].Send([]byte{byte(i)})
		}
		for i := range ends { // what is old comes late
			for _, p := range wires[1-i].l {
				ends[i].In(p)
			}
		}
		atA, atB := rounds(64, ends[0], ends[1])
		if !ends[0].Up() || !ends[1].Up() || !bytes.Equal(atA, []byte{1}) || !bytes.Equal(atB, []byte{0}) {
			t.Fatalf("P1802: %d: those that began anew: %v, %v", seed, atA, atB)
		}
	}
}
