package cdb

import (
	"bytes"
	"math"
	"math/rand"
	"reflect"
	"testing"

	"gemel/api"
)

// row is a command and its bytes, as places and what stands there.
type row struct {
	c    api.Command
	want map[int]byte
}

func rows() []row {
	at, n := 0x0102030405060708, 0x0A0B0C0D
	where := func(op byte) map[int]byte {
		return map[int]byte{0: op, 2: 1, 3: 2, 4: 3, 5: 4, 6: 5, 7: 6, 8: 7, 9: 8, 10: 0x0A, 11: 0x0B, 12: 0x0C, 13: 0x0D}
	}
	force := where(0x8A)
	force[1] = 8
	return []row{
		{api.Command{Kind: api.TestReady}, map[int]byte{}},
		{api.Command{Kind: api.Sense}, map[int]byte{0: 0x03}},
		{api.Command{Kind: api.Inquiry}, map[int]byte{0: 0x12}},
		{api.Command{Kind: api.Capacity}, map[int]byte{0: 0x25}},
		{api.Command{Kind: api.Read, At: at, N: n}, where(0x88)},
		{api.Command{Kind: api.Write, At: at, N: n}, where(0x8A)},
		{api.Command{Kind: api.Write, At: at, N: n, Force: true}, force},
		{api.Command{Kind: api.SyncCache, At: at, N: n}, where(0x91)},
		{api.Command{Kind: api.Unmap, At: at, N: n}, where(0x42)},
		{api.Command{Kind: api.Compare, At: 9, N: 255}, map[int]byte{0: 0x89, 9: 9, 13: 255}},
		{api.Command{Kind: api.Compare, At: 9, N: 1, Force: true}, map[int]byte{0: 0x89, 1: 8, 9: 9, 13: 1}},
		{api.Command{Kind: api.Register}, map[int]byte{0: 0x5F}},
		{api.Command{Kind: api.Reserve, Type: 15}, map[int]byte{0: 0x5F, 1: 1, 2: 15}},
		{api.Command{Kind: api.Release, Type: 3}, map[int]byte{0: 0x5F, 1: 2, 2: 3}},
		{api.Command{Kind: api.Clear}, map[int]byte{0: 0x5F, 1: 3}},
		{api.Command{Kind: api.Preempt, Type: 5}, map[int]byte{0: 0x5F, 1: 4, 2: 5}},
		{api.Command{Kind: api.RegisterNew}, map[int]byte{0: 0x5F, 1: 6}},
		{api.Command{Kind: api.ReadKeys}, map[int]byte{0: 0x5E}},
		{api.Command{Kind: api.ReadResv}, map[int]byte{0: 0x5E, 1: 1}},
	}
}

func TestCommandsGoAndCome(t *testing.T) {
	for _, r := range rows() {
		want := make([]byte, 16)
		for i, x := range r.want {
			want[i] = x
		}
		b, err := Encode(r.c)
		if err != api.OK || !bytes.Equal(b, want) {
			t.Errorf("P401: %+v: %x, %v", r.c, b, err)
		}
		c, reply, ok := Decode(append(want, 1, 2, 3))
		if !ok || !reflect.DeepEqual(c, r.c) || !reflect.DeepEqual(reply, api.Reply{}) {
			t.Errorf("P401: %x: %+v, %+v, %v", want, c, reply, ok)
		}
	}
}

func TestEncodeLooksAtWhatIsNamed(t *testing.T) {
	odd := api.Command{At: -1, N: -1, Type: 99, Force: true, Key: 5, New: 6, Data: []byte{1}}
	for _, kind := range []int{api.TestReady, api.Sense, api.Inquiry, api.Capacity, api.Register, api.RegisterNew, api.Clear, api.ReadKeys, api.ReadResv} {
		odd.Kind = kind
		plain, _ := Encode(api.Command{Kind: kind})
		if b, err := Encode(odd); err != api.OK || !bytes.Equal(b, plain) {
			t.Errorf("P401: kind %d: %x, %v", kind, b, err)
		}
	}
	if b, err := Encode(api.Command{Kind: api.Reserve, At: -1, N: -1, Type: 1, Force: true}); err != api.OK || b[1] != 1 || b[2] != 1 {
		t.Errorf("P401: Reserve: %x, %v", b, err)
	}
	if b, err := Encode(api.Command{Kind: api.Read, Type: -1, Force: true}); err != api.OK || b[1] != 0 {
		t.Errorf("P401: Read: %x, %v", b, err)
	}
	if b, err := Encode(api.Command{Kind: api.Read, At: 1<<62 + 1, N: math.MaxUint32}); err != api.OK || b[2] != 0x40 {
		t.Errorf("P401: a place above 2^62: %x, %v", b, err)
	}
}

func TestEncodeRefuses(t *testing.T) {
	for _, c := range []api.Command{
		{}, {Kind: -1}, {Kind: api.Reset}, {Kind: 19},
		{Kind: api.Read, At: -1}, {Kind: api.Write, N: -1}, {Kind: api.Unmap, N: 1 << 32}, {Kind: api.SyncCache, At: math.MinInt},
		{Kind: api.Compare, N: 256}, {Kind: api.Reserve, Type: 16}, {Kind: api.Release, Type: -1}, {Kind: api.Preempt, Type: 16},
	} {
		if b, err := Encode(c); err != api.ErrArg || b != nil {
			t.Errorf("P401: %+v: %x, %v", c, b, err)
		}
	}
}

func refused(t *testing.T, b []byte, code int) {
	t.Helper()
	c, r, ok := Decode(b)
	want := api.Reply{Status: api.Check, Key: api.Illegal, Code: code}
	if ok || !reflect.DeepEqual(c, api.Command{}) || !reflect.DeepEqual(r, want) {
		t.Errorf("P401: %x: %+v, %+v, %v", b, c, r, ok)
	}
}

func TestDecodeRefuses(t *testing.T) {
	refused(t, nil, api.CodeOp)
	refused(t, make([]byte, 15), api.CodeOp)
	known := map[byte]bool{0: true, 3: true, 0x12: true, 0x25: true, 0x88: true, 0x8A: true, 0x91: true, 0x42: true, 0x89: true, 0x5E: true, 0x5F: true}
	for op := 0; op < 256; op++ {
		if !known[byte(op)] {
			refused(t, append([]byte{byte(op)}, make([]byte, 15)...), api.CodeOp)
		}
	}
	for second := 0; second < 256; second++ {
		if second == 5 || second > 6 {
			refused(t, append([]byte{0x5F, byte(second)}, make([]byte, 14)...), api.CodeOp)
		}
		if second > 1 {
			refused(t, append([]byte{0x5E, byte(second)}, make([]byte, 14)...), api.CodeOp)
		}
		if second != 0 && second != 8 {
			refused(t, append([]byte{0x8A, byte(second)}, make([]byte, 14)...), api.CodeField)
			refused(t, append([]byte{0x89, byte(second)}, make([]byte, 14)...), api.CodeField)
		}
	}
	far := append([]byte{0x88, 0, 0x40}, make([]byte, 13)...)
	if c, _, ok := Decode(far); !ok || c.At != 1<<62 {
		t.Errorf("P401: a place of 2^62: %+v, %v", c, ok)
	}
	far[9] = 1
	refused(t, far, api.CodeField)
}

func TestBytesThatMustBeNought(t *testing.T) {
	names := map[byte]string{
		0x00: "", 0x03: "", 0x12: "", 0x25: "", 0x88: "23456789abcd", 0x8A: "123456789abcd", 0x91: "23456789abcd",
		0x42: "23456789abcd", 0x89: "123456789d", 0x5E: "1", 0x5F: "1",
	}
	for op, named := range names {
		for i := 1; i < 16; i++ {
			if bytes.IndexByte([]byte(named), "0123456789abcdef"[i]) >= 0 {
				continue
			}
			b := make([]byte, 16)
			b[0], b[i] = op, 1
			refused(t, b, api.CodeField)
		}
	}
	for second, may := range map[byte]bool{0: false, 1: true, 2: true, 3: false, 4: true, 6: false} {
		b := append([]byte{0x5F, second, 0xEE}, make([]byte, 13)...)
		c, _, ok := Decode(b)
		if ok != may || may && c.Type != 0xEE {
			t.Errorf("P401: 5F %d with a type: %+v, %v", second, c, ok)
		}
	}
}

func TestAnyBytesAreTakenOrRefused(t *testing.T) {
	r := rand.New(rand.NewSource(3))
	for i := 0; i < 20000; i++ {
		b := make([]byte, 16)
		b[0] = []byte{0x88, 0x8A, 0x89, 0x5F, 0x5E, 0, 3}[r.Intn(7)]
		for j := r.Intn(4); j > 0; j-- {
			b[1+r.Intn(15)] = byte(r.Intn(16))
		}
		c, _, ok := Decode(b)
		if !ok {
			continue
		}
		if back, err := Encode(c); err != api.OK || !bytes.Equal(back, b) {
			t.Fatalf("P401: %x: %+v: %x, %v", b, c, back, err)
		}
	}
}

func TestBytesOfData(t *testing.T) {
	for _, c := range []struct {
		c       api.Command
		in, out int
	}{
		{api.Command{Kind: api.Read, N: 3}, 24, 0},
		{api.Command{Kind: api.Read, N: 32}, 256, 0},
		{api.Command{Kind: api.Read, N: 33}, 0, 0},
		{api.Command{Kind: api.Read, N: -1}, 0, 0},
		{api.Command{Kind: api.Write, N: 32}, 0, 256},
		{api.Command{Kind: api.Write, N: 33}, 0, 0},
		{api.Command{Kind: api.Write, N: -1}, 0, 0},
		{api.Command{Kind: api.Compare, N: 32}, 0, 512},
		{api.Command{Kind: api.Compare, N: 33}, 0, 0},
		{api.Command{Kind: api.Capacity}, 8, 0},
		{api.Command{Kind: api.Inquiry}, 36, 0},
		{api.Command{Kind: api.Sense}, 18, 0},
		{api.Command{Kind: api.ReadKeys}, 136, 0},
		{api.Command{Kind: api.ReadResv}, 24, 0},
		{api.Command{Kind: api.Register}, 0, 24},
		{api.Command{Kind: api.RegisterNew}, 0, 24},
		{api.Command{Kind: api.Reserve}, 0, 24},
		{api.Command{Kind: api.Release}, 0, 24},
		{api.Command{Kind: api.Clear}, 0, 24},
		{api.Command{Kind: api.Preempt}, 0, 24},
		{api.Command{Kind: api.TestReady, N: 3}, 0, 0},
		{api.Command{Kind: api.Unmap, N: 3}, 0, 0},
		{api.Command{Kind: api.SyncCache, N: 3}, 0, 0},
		{api.Command{Kind: api.Reset}, 0, 0},
		{api.Command{}, 0, 0},
	} {
		if in, out := In(c.c), Out(c.c); in != c.in || out != c.out {
			t.Errorf("P401: %+v: %d, %d", c.c, in, out)
		}
	}
}
