// Package bin: numbers. See doc/01-bin.md.
package bin

// Put tells b, and v's lowest n bytes behind it, the highest first.
func Put(b []byte, v uint64, n int) []byte {
	out := append([]byte(nil), b...)
	if n < 1 || n > 8 {
		return out
	}
	for i := n - 1; i >= 0; i-- {
		out = append(out, byte(v>>(8*uint(i))))
	}
	return out
}

// Get tells the n bytes from at on as a number.
func Get(b []byte, at, n int) (uint64, bool) {
	// len(b)-n cannot overflow, at+n could.
	if n < 1 || n > 8 || at < 0 || at > len(b)-n {
		return 0, false
	}
	v := uint64(0)
	for _, x := range b[at : at+n] {
		v = v<<8 | uint64(x)
	}
	return v, true
}

// Pad tells b, and bytes 0 up to a multiple of to.
func Pad(b []byte, to int) []byte {
	out := append([]byte(nil), b...)
	if to < 1 || to > 4096 {
		return out
	}
	for len(out)%to != 0 {
		out = append(out, 0)
	}
	return out
}

// Less tells whether b is ahead of a.
func Less(a, b uint32) bool { return Gap(a, b) > 0 }

// Gap tells how far b is ahead of a; the numbers go round.
func Gap(a, b uint32) int { return int(int32(b - a)) }

// Within tells whether x is one of the n numbers from lo on.
func Within(lo, n, x uint32) bool { return x-lo < n }
