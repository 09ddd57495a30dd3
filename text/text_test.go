package text

import (
	"slices"
	"strings"
	"testing"

	"gemel/api"
)

func TestPairsGoAndCome(t *testing.T) {
	l := []Pair{{"A", ""}, {"a.B-c+9@_AZaz09", "x=y"}, {strings.Repeat("k", 63), strings.Repeat("\xff", 255)}}
	b, err := Encode(l)
	want := "A=\x00a.B-c+9@_AZaz09=x=y\x00" + l[2].Key + "=" + l[2].Value + "\x00"
	if err != api.OK || string(b) != want {
		t.Fatalf("P301: Encode: %q, %v", b, err)
	}
	back, err := Decode(b)
	if err != api.OK || !slices.Equal(back, l) {
		t.Errorf("P301: Decode: %v, %v", back, err)
	}
	if b, err := Encode(nil); err != api.OK || len(b) != 0 {
		t.Errorf("P301: Encode of nothing: %q, %v", b, err)
	}
	if l, err := Decode(nil); err != api.OK || len(l) != 0 {
		t.Errorf("P301: Decode of nothing: %v, %v", l, err)
	}
}

func TestEncodeRefuses(t *testing.T) {
	for i, l := range [][]Pair{
		{{"", "x"}}, {{strings.Repeat("k", 64), ""}}, {{"a b", ""}}, {{"a[", ""}}, {{"a`", ""}}, {{"a{", ""}}, {{"a/", ""}}, {{"a:", ""}}, {{"a=b", ""}}, {{"\xe4", ""}},
		{{"a", "x\x00"}}, {{"a", strings.Repeat("v", 256)}}, {{"a", "1"}, {"b", "2"}, {"a", "3"}},
	} {
		if b, err := Encode(l); err != api.ErrArg || b != nil {
			t.Errorf("P301: %d: %q, %v", i, b, err)
		}
	}
}

// pairs tells pairs of so many bytes in all.
func pairs(n int) []Pair {
	var l []Pair
	for i := 0; n > 0; i++ {
		size := min(n, 200)
		if n-size > 0 && n-size < 8 {
			size -= 8
		}
		l = append(l, Pair{"k" + string(rune('A'+i)), strings.Repeat("v", size-4)})
		n -= size
	}
	return l
}

func TestLimitOfData(t *testing.T) {
	b, err := Encode(pairs(api.MaxData))
	if err != api.OK || len(b) != api.MaxData {
		t.Fatalf("P301: at the bound: %d, %v", len(b), err)
	}
	if _, err := Decode(b); err != api.OK {
		t.Errorf("P301: Decode at the bound: %v", err)
	}
	if b, err := Encode(pairs(api.MaxData + 1)); err != api.ErrLong || b != nil {
		t.Errorf("P301: one more: %v", err)
	}
	if l, err := Decode(make([]byte, api.MaxData+1)); err != api.ErrLong || l != nil {
		t.Errorf("P301: Decode of one more: %v", err)
	}
	long := append(pairs(api.MaxData+1), Pair{"", ""})
	if _, err := Encode(long); err != api.ErrArg {
		t.Errorf("P6: ErrArg is ahead of ErrLong: %v", err)
	}
}

func TestDecodeRefuses(t *testing.T) {
	for _, s := range []string{
		"a=b", "a=b\x00c=d", "ab\x00", "\x00", "=v\x00", "a b=v\x00", "a=b\x00\x00",
		strings.Repeat("k", 64) + "=\x00", "a=" + strings.Repeat("v", 256) + "\x00", "a=1\x00b=2\x00a=1\x00",
	} {
		if l, err := Decode([]byte(s)); err != api.ErrForm || l != nil {
			t.Errorf("P301: %q: %v, %v", s, l, err)
		}
	}
}

func TestFind(t *testing.T) {
	l := []Pair{{"a", "1"}, {"b", "2"}, {"a", "3"}}
	if v, ok := Find(l, "a"); v != "1" || !ok {
		t.Errorf("P301: %q, %v", v, ok)
	}
	if v, ok := Find(l, "A"); v != "" || ok {
		t.Errorf("P301: %q, %v", v, ok)
	}
}

func TestName(t *testing.T) {
	for _, s := range []string{"iqn.a", "iqn.2026-11.org.x:disk-0", "iqn.az09", "iqn." + strings.Repeat("z", 219)} {
		if !Name(s) {
			t.Errorf("P302: %q is a name", s)
		}
	}
	for _, s := range []string{"", "iqn.", "iqn", "iqn.A", "iqn.a_b", "iqn.`", "iqn.{", "iqn./", "iqn.;", "IQN.a", "eui.a", "iqn.a ", "iqn." + strings.Repeat("z", 220)} {
		if Name(s) {
			t.Errorf("P302: %q is no name", s)
		}
	}
}

func TestNumber(t *testing.T) {
	for s, want := range map[string]int{"0": 0, "7": 7, "999999999": 999999999, "0x0": 0, "0x00fF": 255, "0xaA": 170, "0x9": 9, "0xFFFFFFF": 0xFFFFFFF} {
		if v, ok := Number(s); v != want || !ok {
			t.Errorf("P302: %q: %d, %v", s, v, ok)
		}
	}
	for _, s := range []string{"", "00", "01", "1000000000", "-1", "+1", "1a", "a", "0x", "0X1", "0x12345678", "0xg", "0xG", "0x`", "0x@", "0x/", "0x:", " 1", "0-", "1:"} {
		if v, ok := Number(s); v != 0 || ok {
			t.Errorf("P302: %q: %d, %v", s, v, ok)
		}
	}
}

func TestBool(t *testing.T) {
	for s, want := range map[string][2]bool{"Yes": {true, true}, "No": {false, true}, "yes": {}, "": {}, "NO": {}} {
		if v, ok := Bool(s); v != want[0] || ok != want[1] {
			t.Errorf("P302: %q: %v, %v", s, v, ok)
		}
	}
}

func TestResults(t *testing.T) {
	for _, c := range []struct {
		name string
		f    func(a, b string) (string, bool)
		a, b string
		want string
		ok   bool
	}{
		{"Lesser", Lesser, "12", "0x0b", "11", true},
		{"Lesser", Lesser, "5", "5", "5", true},
		{"Lesser", Lesser, "x", "5", "", false},
		{"Lesser", Lesser, "5", "", "", false},
		{"Greater", Greater, "12", "0xb", "12", true},
		{"Greater", Greater, "0xFF", "12", "255", true},
		{"Greater", Greater, "1", "01", "", false},
		{"And", And, "Yes", "Yes", "Yes", true},
		{"And", And, "Yes", "No", "No", true},
		{"And", And, "No", "Yes", "No", true},
		{"And", And, "No", "No", "No", true},
		{"And", And, "No", "?", "", false},
		{"And", And, "?", "Yes", "", false},
		{"Choose", Choose, "a,b,c", "c,b", "b", true},
		{"Choose", Choose, "a,b", "ab,A", "", false},
		{"Choose", Choose, "", "", "", true},
		{"Choose", Choose, "x,", "a,,b", "", true},
		{"Choose", Choose, "", "a", "", false},
	} {
		if got, ok := c.f(c.a, c.b); got != c.want || ok != c.ok {
			t.Errorf("P302: %s(%q, %q): %q, %v", c.name, c.a, c.b, got, ok)
		}
	}
}
