package prlist

import (
	"bytes"
	"math/rand"
	"reflect"
	"slices"
	"testing"

	"gemel/api"
)

func TestTwoKeys(t *testing.T) {
	b := Encode(0x0102030405060708, 9)
	want := []byte{1, 2, 3, 4, 5, 6, 7, 8, 0, 0, 0, 0, 0, 0, 0, 9, 0, 0, 0, 0, 0, 0, 0, 0}
	if !bytes.Equal(b, want) {
		t.Errorf("P601: %v", b)
	}
	if k, o, r, ok := Decode(b); k != 0x0102030405060708 || o != 9 || !reflect.DeepEqual(r, api.Reply{}) || !ok {
		t.Errorf("P601: %x, %x, %+v, %v", k, o, r, ok)
	}
	bad := [][]byte{nil, b[:23], append(slices.Clone(b), 0)}
	for i := 16; i < 24; i++ {
		x := slices.Clone(b)
		x[i] = 1
		bad = append(bad, x)
	}
	for _, x := range bad {
		k, o, r, ok := Decode(x)
		if k != 0 || o != 0 || ok || !reflect.DeepEqual(r, api.Reply{Status: api.Check, Key: api.Illegal, Code: api.CodeParam}) {
			t.Errorf("P601: %v: %x, %x, %+v, %v", x, k, o, r, ok)
		}
	}
}

func TestKeys(t *testing.T) {
	b := Keys(0x01020304, []uint64{5, 1 << 56})
	want := []byte{1, 2, 3, 4, 0, 0, 0, 16, 0, 0, 0, 0, 0, 0, 0, 5, 1, 0, 0, 0, 0, 0, 0, 0}
	if !bytes.Equal(b, want) {
		t.Errorf("P601: %v", b)
	}
	if g, l, err := ParseKeys(b); g != 0x01020304 || !slices.Equal(l, []uint64{5, 1 << 56}) || err != api.OK {
		t.Errorf("P601: %x, %v, %v", g, l, err)
	}
	if g, l, err := ParseKeys(Keys(7, nil)); g != 7 || len(l) != 0 || err != api.OK {
		t.Errorf("P601: none: %x, %v, %v", g, l, err)
	}
	many := make([]uint64, api.MaxKeys+5)
	for i := range many {
		many[i] = uint64(i)
	}
	full := Keys(1, many)
	if g, l, err := ParseKeys(full); g != 1 || !slices.Equal(l, many[:api.MaxKeys]) || err != api.OK {
		t.Errorf("P601: many: %x, %v, %v", g, l, err)
	}
}

func TestParseKeysRefuses(t *testing.T) {
	full := Keys(1, make([]uint64, api.MaxKeys))
	more := append(slices.Clone(full), 0, 0, 0, 0, 0, 0, 0, 0)
	more[7] += 8
	for _, c := range []struct {
		b   []byte
		err api.Errno
	}{
		{nil, api.ErrShort},
		{make([]byte, 7), api.ErrShort},
		{[]byte{0, 0, 0, 1, 0, 0, 0, 8, 1, 2, 3, 4, 5, 6, 7}, api.ErrShort},
		{[]byte{0, 0, 0, 1, 255, 255, 255, 255, 1}, api.ErrShort},
		{[]byte{0, 0, 0, 1, 0, 0, 0, 0, 0}, api.ErrForm},
		{[]byte{0, 0, 0, 1, 0, 0, 0, 4, 1, 2, 3, 4}, api.ErrForm},
		{more, api.ErrForm},
	} {
		if g, l, err := ParseKeys(c.b); g != 0 || l != nil || err != c.err {
			t.Errorf("P601: %v: %x, %v, %v", c.b, g, l, err)
		}
	}
}

func TestHolder(t *testing.T) {
	b := Holder(3, 0x0102030405060708, 5)
	want := []byte{0, 0, 0, 3, 0, 0, 0, 16, 1, 2, 3, 4, 5, 6, 7, 8, 0, 0, 0, 0, 0, 5, 0, 0}
	if !bytes.Equal(b, want) {
		t.Errorf("P601: %v", b)
	}
	if g, k, typ, err := ParseHolder(b); g != 3 || k != 0x0102030405060708 || typ != 5 || err != api.OK {
		t.Errorf("P601: %d, %x, %d, %v", g, k, typ, err)
	}
	for _, typ := range []int{0, 16, -16} {
		if b := Holder(3, 9, typ); !bytes.Equal(b, []byte{0, 0, 0, 3, 0, 0, 0, 0}) {
			t.Errorf("P601: type %d: %v", typ, b)
		}
	}
	if b := Holder(3, 9, 0x21); b[21] != 1 {
		t.Errorf("P601: a type is cut: %v", b)
	}
	if g, k, typ, err := ParseHolder(Holder(3, 9, 0)); g != 3 || k != 0 || typ != 0 || err != api.OK {
		t.Errorf("P601: nobody: %d, %x, %d, %v", g, k, typ, err)
	}
	if g, k, typ, err := ParseHolder(Holder(3, 7, 1)); g != 3 || k != 7 || typ != 1 || err != api.OK {
		t.Errorf("P601: type 1: %d, %x, %d, %v", g, k, typ, err)
	}
	if g, k, typ, err := ParseHolder(Holder(3, 0, 15)); g != 3 || k != 0 || typ != 15 || err != api.OK {
		t.Errorf("P601: key 0: %d, %x, %d, %v", g, k, typ, err)
	}
}

func TestParseHolderRefuses(t *testing.T) {
	right := Holder(3, 9, 5)
	type bad struct {
		b   []byte
		err api.Errno
	}
	l := []bad{
		{nil, api.ErrShort}, {right[:7], api.ErrShort}, {right[:23], api.ErrShort},
		{append(slices.Clone(right), 0), api.ErrForm},
		{[]byte{0, 0, 0, 1, 0, 0, 0, 8, 0, 0, 0, 0, 0, 0, 0, 1}, api.ErrForm},
		{[]byte{0, 0, 0, 1, 0, 0, 0, 0, 0}, api.ErrForm},
	}
	for _, i := range []int{16, 17, 18, 19, 20, 22, 23} {
		x := slices.Clone(right)
		x[i] = 1
		l = append(l, bad{x, api.ErrForm})
	}
	for _, typ := range []byte{0, 16, 255} {
		x := slices.Clone(right)
		x[21] = typ
		l = append(l, bad{x, api.ErrForm})
	}
	for _, c := range l {
		if g, k, typ, err := ParseHolder(c.b); g != 0 || k != 0 || typ != 0 || err != c.err {
			t.Errorf("P601: %v: %d, %x, %d, %v", c.b, g, k, typ, err)
		}
	}
}

func TestWhatIsParsedIsWhatIsMade(t *testing.T) {
	r := rand.New(rand.NewSource(4))
	for i := 0; i < 20000; i++ {
		b := make([]byte, r.Intn(30))
		if len(b) > 7 {
			b[7] = byte(r.Intn(4) * 8)
		}
		for j := r.Intn(3); j > 0 && len(b) > 0; j-- {
			b[r.Intn(len(b))] = byte(r.Intn(20))
		}
		if g, l, err := ParseKeys(b); err == api.OK && !bytes.Equal(Keys(g, l), b) {
			t.Fatalf("P601: ParseKeys: %v", b)
		}
		if g, k, typ, err := ParseHolder(b); err == api.OK && !bytes.Equal(Holder(g, k, typ), b) {
			t.Fatalf("P601: ParseHolder: %v", b)
		}
	}
}
