package pdu

import "gemel/api"

// Reader is handed bytes as they come, and tells PDUs.
type Reader struct {
	held []byte
	err  api.Errno
}

// NewReader tells a reader that has nothing.
func NewReader() *Reader { return &Reader{} }

// Put hands in what came.
func (r *Reader) Put(b []byte) {
	if r.err == api.OK {
		r.held = append(r.held, b...)
	}
}

// Next tells the next PDU; false: more bytes are wanted, or there was a fault.
func (r *Reader) Next() (PDU, bool) {
parts:
	for r.err == api.OK {
		p, n, err := Decode(r.held)
		switch err {
		case api.OK:
			r.held = r.held[n:]
			return p, true
		case api.ErrShort:
			break parts
		}
		r.err = err
		r.held = nil
	}
	if len(r.held) == 0 {
		r.held = nil
	}
	return PDU{}, false
}

// Err tells the fault that a Next came to.
func (r *Reader) Err() api.Errno { return r.err }

// Held tells how many bytes are kept.
func (r *Reader) Held() int { return len(r.held) }
