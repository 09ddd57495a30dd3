package lu

import (
	"gemel/api"
	"gemel/bin"
	"gemel/resv"
	"gemel/space"
)

// mostCodes is how many attentions of different codes there are.
const mostCodes = 4

// Encode tells the unit as bytes: its blocks and its table, each behind its length, then each host.
func (u *Unit) Encode() []byte {
	out := withLength(nil, u.blocks.Encode())
	out = withLength(out, u.table.Encode())
	for _, h := range u.hosts {
		out = bin.Put(out, h.floor, 8)
		out = bin.Put(out, uint64(len(h.waits)), 1)
		for _, code := range h.waits {
			out = bin.Put(out, uint64(code), 2)
		}
		out = bin.Put(out, uint64(len(h.told)), 1)
		for _, k := range h.told {
			out = bin.Put(out, k.id, 8)
			for _, v := range []int{k.reply.Status, k.reply.Key, k.reply.Code, k.reply.Info} {
				out = bin.Put(out, uint64(v), 2)
			}
			out = withLength(out, k.reply.Data)
		}
	}
	return out
}

func withLength(b, part []byte) []byte {
	return append(bin.Put(b, uint64(len(part)), 2), part...)
}

// cursor reads numbers and rows of bytes, one behind the other.
type cursor struct {
	b    []byte
	at   int
	over bool // more was read than there is
}

func (c *cursor) number(n int) uint64 {
	v, ok := bin.Get(c.b, c.at, n)
	c.over = c.over || !ok
	c.at += n
	return v
}

func (c *cursor) row() []byte {
	n := int(c.number(2))
	if c.over || n > len(c.b)-c.at {
		c.over = true
		return nil
	}
	c.at += n
	return append([]byte(nil), c.b[c.at-n:c.at]...)
}

// host reads what Encode tells of one; false: it is none.
func (c *cursor) host() (host, bool) {
	h := host{floor: c.number(8)}
	codes := int(c.number(1))
	if codes > mostCodes {
		return host{}, false
	}
	for range codes {
		h.waits = append(h.waits, int(c.number(2)))
	}
	replies := int(c.number(1))
	if replies > api.Window {
		return host{}, false
	}
	for range replies {
		k := kept{id: c.number(8)}
		k.reply.Status = int(c.number(2))
		k.reply.Key = int(c.number(2))
		k.reply.Code = int(c.number(2))
		k.reply.Info = int(c.number(2))
		k.reply.Data = c.row()
		h.told = append(h.told, k)
	}
	return h, !c.over
}

// Decode tells the unit that the bytes are.
func Decode(b []byte) (*Unit, api.Errno) {
	c := &cursor{b: b}
	blocks, err := space.Decode(c.row())
	if err != api.OK {
		return nil, api.ErrForm
	}
	table, err := resv.Decode(c.row())
	if err != api.OK {
		return nil, api.ErrForm
	}
	u := &Unit{blocks: blocks, table: table}
	for i := range u.hosts {
		h, ok := c.host()
		if !ok {
			return nil, api.ErrForm
		}
		u.hosts[i] = h
	}
	if c.at != len(b) {
		return nil, api.ErrForm
	}
	return u, api.OK
}
