package sense

import (
	"bytes"
	"math"
	"reflect"
	"testing"

	"gemel/api"
)

func TestEncode(t *testing.T) {
	for _, c := range []struct {
		r    api.Reply
		want []byte
	}{
		{api.Reply{}, []byte{0x70, 0, 0, 0, 0, 0, 0, 10, 0, 0, 0, 0, 0, 0, 0, 0, 0, 0}},
		{api.Reply{Status: api.Check, Key: 14, Code: 0x1D00, Info: 5}, []byte{0xF0, 0, 14, 0, 0, 0, 5, 10, 0, 0, 0, 0, 0x1D, 0, 0, 0, 0, 0}},
		{api.Reply{Key: 0x1F5, Code: 0x32A04, Info: 1 << 32}, []byte{0x70, 0, 5, 0, 0, 0, 0, 10, 0, 0, 0, 0, 0x2A, 4, 0, 0, 0, 0}},
		{api.Reply{Key: -1, Code: -1, Info: -1}, []byte{0xF0, 0, 15, 255, 255, 255, 255, 10, 0, 0, 0, 0, 255, 255, 0, 0, 0, 0}},
		{api.Reply{Info: 0x201020304}, []byte{0xF0, 0, 0, 1, 2, 3, 4, 10, 0, 0, 0, 0, 0, 0, 0, 0, 0, 0}},
	} {
		if b := Encode(c.r); !bytes.Equal(b, c.want) {
			t.Errorf("P501: %+v: %v", c.r, b)
		}
	}
}

func TestDecode(t *testing.T) {
	b := []byte{0xF0, 9, 0xFE, 1, 2, 3, 4, 10, 9, 9, 9, 9, 0x29, 0x03, 9, 9, 9, 9}
	if k, c, i, err := Decode(b); k != 14 || c != 0x2903 || i != 0x01020304 || err != api.OK {
		t.Errorf("P501: %d, %x, %x, %v", k, c, i, err)
	}
	b[0] = 0x70
	if k, c, i, err := Decode(append(b, 1)); k != 14 || c != 0x2903 || i != 0 || err != api.OK {
		t.Errorf("P501: without its highest bit: %d, %x, %x, %v", k, c, i, err)
	}
	if k, c, i, err := Decode(b[:17]); k != 0 || c != 0 || i != 0 || err != api.ErrShort {
		t.Errorf("P501: seventeen bytes: %d, %x, %x, %v", k, c, i, err)
	}
	for _, x := range []byte{0x71, 0, 0xF1, 0x60} {
		b[0] = x
		if k, c, i, err := Decode(b); k != 0 || c != 0 || i != 0 || err != api.ErrForm {
			t.Errorf("P501: byte 0 %x: %d, %x, %x, %v", x, k, c, i, err)
		}
	}
	b[0], b[7] = 0x70, 11
	if _, _, _, err := Decode(b); err != api.ErrForm {
		t.Errorf("P501: byte 7: %v", err)
	}
	if _, _, _, err := Decode(nil); err != api.ErrShort {
		t.Errorf("P501: nothing: %v", err)
	}
}

func TestInquiry(t *testing.T) {
	b := Inquiry()
	want := append([]byte{0, 0, 5, 2, 31, 0, 0, 0}, "GEMEL   TWIN DISK       0001"...)
	if !bytes.Equal(b, want) || len(b) != 36 {
		t.Errorf("P501: %q", b)
	}
	b[0] = 1
	if Inquiry()[0] != 0 {
		t.Error("P2: an answer is new memory")
	}
}

func TestCapacity(t *testing.T) {
	for n, want := range map[int][]byte{
		1024: {0, 0, 3, 255, 0, 0, 0, 8}, 1: {0, 0, 0, 0, 0, 0, 0, 8}, 0: {0, 0, 0, 0, 0, 0, 0, 8}, -5: {0, 0, 0, 0, 0, 0, 0, 8},
		math.MinInt: {0, 0, 0, 0, 0, 0, 0, 8},
	} {
		if b := Capacity(n); !bytes.Equal(b, want) {
			t.Errorf("P501: Capacity(%d): %v", n, b)
		}
	}
}

func TestText(t *testing.T) {
	for _, c := range []struct {
		r    api.Reply
		want string
	}{
		{api.Reply{Status: api.Good, Key: 3}, "good"},
		{api.Reply{Status: api.Conflict}, "conflict"},
		{api.Reply{Status: api.Busy}, "busy"},
		{api.Reply{Status: api.Check, Key: 5, Code: 0x2400}, "check 5 9216"},
		{api.Reply{Status: 1, Key: 5}, "status 1"},
		{api.Reply{Status: -7}, "status -7"},
	} {
		if s := Text(c.r); s != c.want {
			t.Errorf("P501: %+v: %q", c.r, s)
		}
	}
}

func TestGoodAndWrong(t *testing.T) {
	data := []byte{1, 2}
	r := Good(data)
	data[0] = 9
	if !reflect.DeepEqual(r, api.Reply{Data: []byte{1, 2}}) {
		t.Errorf("P501: %+v", r)
	}
	if r := Good(nil); r.Status != api.Good || len(r.Data) != 0 {
		t.Errorf("P501: %+v", r)
	}
	if r := Wrong(6, 0x2903); !reflect.DeepEqual(r, api.Reply{Status: 2, Key: 6, Code: 0x2903}) {
		t.Errorf("P501: %+v", r)
	}
}
