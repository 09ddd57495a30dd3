package login

import (
	"slices"
	"testing"

	"gemel/api"
	"gemel/text"
)

const me = "iqn.me"

func pairs(l ...string) []text.Pair {
	var out []text.Pair
	for i := 0; i+1 < len(l); i += 2 {
		out = append(out, text.Pair{Key: l[i], Value: l[i+1]})
	}
	return out
}

func TestOurs(t *testing.T) {
	if Ours() != (Params{"", 4096, 8192, true, true}) {
		t.Errorf("P1901: %+v", Ours())
	}
}

func TestNegotiate(t *testing.T) {
	start := Params{"", 4096, 8192, true, false}
	with := func(f func(p *Params)) Params {
		p := start
		p.Name = me
		f(&p)
		return p
	}
	for i, c := range []struct {
		asked  []text.Pair
		answer []text.Pair
		agreed Params
	}{
		{pairs(keyName, me), nil, with(func(p *Params) {})},
		{pairs(keyName, me, keyData, "512"), nil, with(func(p *Params) { p.MaxData = 512 })},
		{pairs(keyName, me, keyData, "16777215"), nil, with(func(p *Params) {})},
		{pairs(keyName, me, keyBurst, "0x200"), pairs(keyBurst, "512"), with(func(p *Params) { p.Burst = 512 })},
		{pairs(keyName, me, keyBurst, "16777215"), pairs(keyBurst, "8192"), with(func(p *Params) {})},
		{pairs(keyName, me, keyImmediate, "Yes"), pairs(keyImmediate, "Yes"), with(func(p *Params) {})},
		{pairs(keyName, me, keyImmediate, "No"), pairs(keyImmediate, "No"), with(func(p *Params) { p.Immediate = false })},
		{pairs(keyName, me, keyDigest, "None,CRC32C"), pairs(keyDigest, "None"), with(func(p *Params) {})},
		{pairs(keyName, me, keyDigest, "X,CRC32C"), pairs(keyDigest, "CRC32C"), with(func(p *Params) { p.Digest = true })},
		{pairs(keyName, me, keyDigest, "X"), pairs(keyDigest, "Reject"), with(func(p *Params) {})},
		{pairs("TargetName", "?", "X-other", "1", keyName, me, "b", ""), pairs("X-other", "NotUnderstood", "b", "NotUnderstood"), with(func(p *Params) {})},
		{pairs(keyName, "iqn.other", keyBurst, "600", keyBurst, "700", keyImmediate, "No", keyImmediate, "Yes", keyDigest, "CRC32C", keyDigest, "X", keyName, me),
			pairs(keyBurst, "600", keyBurst, "600", keyImmediate, "No", keyImmediate, "No", keyDigest, "CRC32C", keyDigest, "Reject"),
			with(func(p *Params) { p.Burst = 600; p.Immediate = false })},
		{pairs(keyName, me, keyDigest, "None", keyDigest, "CRC32C"), pairs(keyDigest, "None", keyDigest, "CRC32C"), with(func(p *Params) { p.Digest = true })},
	} {
		answer, agreed, status := Negotiate(Ours(), []string{"iqn.x", me}, c.asked)
		if !slices.Equal(answer, c.answer) || agreed != c.agreed || status != 0 {
			t.Errorf("P1901: %d: %v, %+v, %d", i, answer, agreed, status)
		}
	}
}

func TestNegotiateKeepsOurs(t *testing.T) {
	ours := Params{"iqn.ours", 1000, 900, false, true}
	answer, agreed, status := Negotiate(ours, []string{me}, pairs(keyName, me, keyData, "2000", keyBurst, "512", keyImmediate, "Yes"))
	if !slices.Equal(answer, pairs(keyBurst, "512", keyImmediate, "No")) || agreed != (Params{me, 1000, 512, false, false}) || status != 0 {
		t.Errorf("P1901: %v, %+v, %d", answer, agreed, status)
	}
}

func TestStatuses(t *testing.T) {
	for i, c := range []struct {
		asked  []text.Pair
		status int
	}{
		{pairs(keyName, "me"), 1}, {pairs(keyName, me, keyData, "511"), 1}, {pairs(keyName, me, keyData, "16777216"), 1}, {pairs(keyName, me, keyData, "x"), 1},
		{pairs(keyName, me, keyBurst, "511"), 1}, {pairs(keyName, me, keyBurst, "0x1000000"), 1}, {pairs(keyName, me, keyBurst, ""), 1},
		{pairs(keyName, me, keyImmediate, "yes"), 1}, {nil, 3}, {pairs(keyData, "512", "z", "1"), 3}, {pairs(keyName, "iqn.no"), 2},
		{pairs(keyImmediate, "?"), 1}, {pairs(keyName, "iqn.no", keyImmediate, "?"), 1}, {pairs(keyName, me, keyName, "iqn.no"), 2}, {pairs(keyName, "x", keyName, me), 1},
	} {
		answer, agreed, status := Negotiate(Ours(), []string{me}, c.asked)
		if answer != nil || agreed != (Params{}) || status != c.status {
			t.Errorf("P1901: %d: %v, %+v, %d", i, answer, agreed, status)
		}
	}
	if _, _, status := Negotiate(Ours(), nil, pairs(keyName, me)); status != 2 {
		t.Errorf("P1901: nobody may: %d", status)
	}
}

func TestAsk(t *testing.T) {
	want := pairs("InitiatorName", "any", "MaxRecvDataSegmentLength", "700", "MaxBurstLength", "0", "ImmediateData", "No", "HeaderDigest", "None")
	if l := Ask(Params{"any", 700, 0, false, false}); !slices.Equal(l, want) {
		t.Errorf("P1901: %v", l)
	}
	want = pairs("InitiatorName", me, "MaxRecvDataSegmentLength", "4096", "MaxBurstLength", "8192", "ImmediateData", "Yes", "HeaderDigest", "CRC32C,None")
	p := Ours()
	p.Name = me
	if l := Ask(p); !slices.Equal(l, want) {
		t.Errorf("P1901: %v", l)
	}
}

func TestTake(t *testing.T) {
	ours := Params{me, 1000, 900, true, true}
	for i, c := range []struct {
		answer []text.Pair
		want   Params
	}{
		{nil, Params{me, 1000, 900, true, false}},
		{pairs(keyBurst, "0"), Params{me, 1000, 0, true, false}},
		{pairs(keyBurst, "999999999"), Params{me, 1000, 900, true, false}},
		{pairs(keyImmediate, "No", keyImmediate, "Yes"), Params{me, 1000, 900, false, false}},
		{pairs(keyImmediate, "Yes"), Params{me, 1000, 900, true, false}},
		{pairs(keyDigest, "CRC32C"), Params{me, 1000, 900, true, true}},
		{pairs(keyDigest, "None"), Params{me, 1000, 900, true, false}},
		{pairs(keyDigest, "Reject"), Params{me, 1000, 900, true, false}},
		{pairs(keyDigest, "CRC32C", keyDigest, "?"), Params{me, 1000, 900, true, false}},
		{pairs(keyDigest, "None", keyDigest, "CRC32C"), Params{me, 1000, 900, true, false}},
		{pairs(keyBurst, "700", keyBurst, "800"), Params{me, 1000, 700, true, false}},
		{pairs(keyData, "x", "other", "?", keyName, "?"), Params{me, 1000, 900, true, false}},
	} {
		if p, err := Take(ours, c.answer); p != c.want || err != api.OK {
			t.Errorf("P1901: %d: %+v, %v", i, p, err)
		}
	}
	if p, _ := Take(Params{Digest: false}, pairs(keyDigest, "CRC32C")); p.Digest {
		t.Error("P1901: if ours is")
	}
	if p, _ := Take(Params{Immediate: false}, pairs(keyImmediate, "Yes")); p.Immediate {
		t.Error("P1901: And")
	}
	for _, l := range [][]text.Pair{pairs(keyBurst, "x"), pairs(keyBurst, ""), pairs(keyImmediate, "YES"), pairs(keyBurst, "5", keyImmediate, "")} {
		if p, err := Take(ours, l); p != (Params{}) || err != api.ErrForm {
			t.Errorf("P1901: %v: %+v, %v", l, p, err)
		}
	}
}

func TestTwoAgree(t *testing.T) {
	p := Params{me, 2000, 600, true, true}
	answer, theirs, _ := Negotiate(Ours(), []string{me}, Ask(p))
	mine, err := Take(p, answer)
	if err != api.OK || mine != theirs || mine != p {
		t.Errorf("P1901: %+v, %+v, %v", mine, theirs, err)
	}
}
