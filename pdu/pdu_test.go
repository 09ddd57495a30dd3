package pdu

import (
	"bytes"
	"math/rand"
	"reflect"
	"slices"
	"testing"

	"gemel/api"
	"gemel/crc"
)

func sample(n int) PDU {
	p := PDU{Op: Command, Final: true, Flags: 0x25, Status: 200, Tag: 0x01020304, Sn: 0x05060708, Exp: 0x090A0B0C,
		Max: 0x0D0E0F10, Off: 0x11121314, Len: 0x15161718}
	for i := range p.Cdb {
		p.Cdb[i] = byte(0x40 + i)
	}
	for i := 0; i < n; i++ {
		p.Data = append(p.Data, byte(i*7+1))
	}
	return p
}

func must(t *testing.T, p PDU) []byte {
	t.Helper()
	b, err := Encode(p)
	if err != api.OK {
		t.Fatalf("P701: Encode: %v", err)
	}
	return b
}

func TestEncode(t *testing.T) {
	head := []byte{1, 0xA5, 200, 0, 0, 0, 0, 3,
		1, 2, 3, 4, 5, 6, 7, 8, 9, 10, 11, 12, 13, 14, 15, 16, 17, 18, 19, 20, 21, 22, 23, 24}
	for i := 0; i < 16; i++ {
		head = append(head, byte(0x40+i))
	}
	want := append(crc.Seal(head), crc.Seal([]byte{1, 8, 15, 0})...)
	if b := must(t, sample(3)); !bytes.Equal(b, want) {
		t.Errorf("P701: %v", b)
	}
	head[7] = 0
	if b := must(t, sample(0)); !bytes.Equal(b, crc.Seal(head)) {
		t.Errorf("P701: without data: %v", b)
	}
	if b := must(t, sample(4)); len(b) != 52+8 {
		t.Errorf("P701: four bytes of data: %d", len(b))
	}
}

func TestEncodeRefuses(t *testing.T) {
	long := make([]byte, api.MaxData+1)
	for _, c := range []struct {
		p   PDU
		err api.Errno
	}{
		{PDU{Op: 4}, api.ErrArg}, {PDU{Op: -1}, api.ErrArg}, {PDU{Op: 256}, api.ErrArg},
		{PDU{Flags: 0x80}, api.ErrArg}, {PDU{Flags: -1}, api.ErrArg}, {PDU{Status: 256}, api.ErrArg}, {PDU{Status: -1}, api.ErrArg},
		{PDU{Data: long}, api.ErrLong}, {PDU{Op: 4, Data: long}, api.ErrArg},
	} {
		if b, err := Encode(c.p); err != c.err || b != nil {
			t.Errorf("P701: %v: %v", c.p.Op, err)
		}
	}
	if b := must(t, PDU{Flags: 0x7F, Status: 255}); b[1] != 0x7F || b[2] != 255 {
		t.Errorf("P701: at the bounds: %v", b[:4])
	}
	if b := must(t, PDU{Data: long[:api.MaxData]}); len(b) != 56+api.MaxData {
		t.Errorf("P701: at the bound: %d", len(b))
	}
}

func TestKnown(t *testing.T) {
	names := []int{0, 1, 2, 3, 5, 6, 0x20, 0x21, 0x22, 0x23, 0x25, 0x26, 0x31, 0x3F}
	for op := -2; op < 300; op++ {
		if Known(op) != slices.Contains(names, op) {
			t.Errorf("P701: Known(%d)", op)
		}
	}
}

func TestDecode(t *testing.T) {
	for _, n := range []int{0, 1, 3, 4, 5, api.MaxData} {
		p := sample(n)
		b := must(t, p)
		got, k, err := Decode(append(slices.Clone(b), 9, 9))
		if err != api.OK || k != len(b) || !reflect.DeepEqual(got, p) {
			t.Errorf("P701: %d bytes: %d, %v, %+v", n, k, err, got)
		}
		for _, cut := range []int{0, 51, 52, len(b) - 1} {
			if cut >= len(b) {
				continue
			}
			if got, k, err := Decode(b[:cut]); err != api.ErrShort || k != 0 || !reflect.DeepEqual(got, PDU{}) {
				t.Errorf("P701: %d of %d bytes: %d, %v", cut, len(b), k, err)
			}
		}
	}
}

// changed tells b with a byte of the head changed, and the head's sum right again.
func changed(b []byte, at int, x byte) []byte {
	head := slices.Clone(b[:48])
	head[at] = x
	return append(crc.Seal(head), b[52:]...)
}

func TestDecodeRefuses(t *testing.T) {
	b := must(t, sample(5))
	turned := slices.Clone(b)
	turned[9] ^= 1
	data := slices.Clone(b)
	data[52] ^= 1
	pad := append(slices.Clone(b[:52]), crc.Seal([]byte{1, 8, 15, 22, 29, 0, 1, 0})...)
	for i, c := range []struct {
		b   []byte
		err api.Errno
	}{
		{turned, api.ErrSum}, {turned[:52], api.ErrSum}, {turned[:51], api.ErrShort},
		{changed(b, 0, 4), api.ErrForm}, {changed(b, 0, 4)[:52], api.ErrForm}, {changed(b, 3, 1), api.ErrForm},
		{changed(b, 6, 0x11), api.ErrLong}, {changed(b, 4, 0xFF)[:52], api.ErrLong},
		{changed(changed(b, 0, 4), 6, 0x11), api.ErrForm},
		{data, api.ErrSum}, {data[:len(data)-1], api.ErrShort}, {pad, api.ErrForm},
	} {
		if p, n, err := Decode(c.b); err != c.err || n != 0 || !reflect.DeepEqual(p, PDU{}) {
			t.Errorf("P701: %d: %d, %v", i, n, err)
		}
	}
	if p, _, err := Decode(changed(changed(b, 6, 0x10), 7, 0)); err != api.ErrShort || p.Data != nil {
		t.Errorf("P701: a length at the bound: %v", err)
	}
}

func TestReaderTellsEachPDU(t *testing.T) {
	r := rand.New(rand.NewSource(5))
	var all []byte
	var want []PDU
	for i := 0; i < 60; i++ {
		p := sample(r.Intn(40))
		p.Tag = uint32(i)
		want = append(want, p)
		all = append(all, must(t, p)...)
	}
	x := NewReader()
	var got []PDU
	for len(all) > 0 {
		n := min(1+r.Intn(150), len(all))
		x.Put(all[:n])
		all = all[n:]
		for {
			p, ok := x.Next()
			if !ok {
				break
			}
			got = append(got, p)
		}
		if x.Held() > 60+api.MaxData {
			t.Fatalf("P702: %d bytes are kept", x.Held())
		}
	}
	if !reflect.DeepEqual(got, want) || x.Err() != api.OK || x.Held() != 0 {
		t.Errorf("P702: %d PDUs, %v, %d", len(got), x.Err(), x.Held())
	}
}

func TestReaderHoldsLittle(t *testing.T) {
	b := must(t, sample(api.MaxData))
	x := NewReader()
	x.Put(b[:len(b)-1])
	if _, ok := x.Next(); ok || x.Held() != len(b)-1 || x.Held() > 60+api.MaxData {
		t.Errorf("P702: %d bytes are kept", x.Held())
	}
}

func TestReaderComesToAFault(t *testing.T) {
	one := must(t, sample(2))
	for i, c := range []struct {
		b   []byte
		err api.Errno
	}{
		{changed(one, 0, 7)[:52], api.ErrForm}, {changed(one, 5, 1)[:52], api.ErrLong}, {make([]byte, 52), api.ErrSum},
	} {
		x := NewReader()
		x.Put(append(slices.Clone(one), c.b[:51]...))
		if p, ok := x.Next(); !ok || p.Op != Command || x.Err() != api.OK {
			t.Fatalf("P702: %d: the one ahead: %v, %v", i, ok, x.Err())
		}
		if _, ok := x.Next(); ok || x.Err() != api.OK || x.Held() != 51 {
			t.Fatalf("P702: %d: more is wanted: %v, %v", i, x.Err(), x.Held())
		}
		x.Put(c.b[51:])
		if x.Err() != api.OK {
			t.Fatalf("P702: %d: no Next came to it", i)
		}
		if p, ok := x.Next(); ok || x.Err() != c.err || x.Held() != 0 || !reflect.DeepEqual(p, PDU{}) {
			t.Fatalf("P702: %d: %v, %v, %d", i, ok, x.Err(), x.Held())
		}
		x.Put(one)
		if _, ok := x.Next(); ok || x.Err() != c.err || x.Held() != 0 {
			t.Fatalf("P702: %d: from then on: %v, %v", i, x.Err(), x.Held())
		}
	}
}

func TestReaderKeepsItsOwn(t *testing.T) {
	b := must(t, sample(8))
	x := NewReader()
	x.Put(b)
	for i := range b {
		b[i] = 0
	}
	p, ok := x.Next()
	if !ok || !reflect.DeepEqual(p, sample(8)) {
		t.Error("P2: what is handed in is not kept")
	}
}

func TestAnyBytes(t *testing.T) {
	r := rand.New(rand.NewSource(6))
	for i := 0; i < 5000; i++ {
		b := make([]byte, r.Intn(200))
		r.Read(b)
		if len(b) > 52 && i%2 == 0 {
			b[0], b[3], b[4], b[5], b[6] = 1, 0, 0, 0, byte(r.Intn(3)*8)
			b = append(crc.Seal(b[:48]), b[52:]...)
		}
		p, n, err := Decode(b)
		if err != api.OK {
			continue
		}
		if back := must(t, p); !bytes.Equal(back, b[:n]) {
			t.Fatalf("T3: %v: %v", b[:n], back)
		}
	}
}
