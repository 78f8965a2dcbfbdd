// Package bit is layer 1: bit strings, which are appended to, read, cut and joined.
package bit

import "drayman/api"

// Sound reports whether x has just the bytes that its bits take, with the unused bits 0.
func Sound(x api.Bits) bool {
	if x.N < 0 || len(x.B) != bytesOf(x.N) {
		return false
	}
	used := x.N % 8
	return used == 0 || x.B[len(x.B)-1]<<used == 0
}

// Put returns x, followed by the low width bits of v.
func Put(x api.Bits, v uint64, width int) (api.Bits, api.Errno) {
	if !Sound(x) {
		return api.Bits{}, api.ErrBitForm
	}
	if width < 0 || width > api.MaxWidth {
		return api.Bits{}, api.ErrArg
	}
	n := x.N + width
	b := make([]byte, bytesOf(n))
	copy(b, x.B)
	write(b, x.N, v, width)
	return api.Bits{B: b, N: n}, api.OK
}

// Get returns the number that the width bits from the index at on are.
func Get(x api.Bits, at, width int) (uint64, api.Errno) {
	if !Sound(x) {
		return 0, api.ErrBitForm
	}
	if width < 0 || width > api.MaxWidth {
		return 0, api.ErrArg
	}
	// The difference cannot overflow, where the sum of at and width may.
	if at < 0 || at > x.N-width {
		return 0, api.ErrBitEnd
	}
	return read(x.B, at, width), api.OK
}

// Cut returns the bits from one index on, up to another one.
func Cut(x api.Bits, from, to int) (api.Bits, api.Errno) {
	if !Sound(x) {
		return api.Bits{}, api.ErrBitForm
	}
	if from < 0 || from > to || to > x.N {
		return api.Bits{}, api.ErrBitEnd
	}
	n := to - from
	b := make([]byte, bytesOf(n))
	first, shift := from/8, from%8
	for i := range b {
		b[i] = x.B[first+i] << shift
		if first+i+1 < len(x.B) {
			b[i] |= x.B[first+i+1] >> (8 - shift)
		}
	}
	if used := n % 8; used != 0 {
		b[len(b)-1] &= byte(0xff) << (8 - used)
	}
	return api.Bits{B: b, N: n}, api.OK
}

// Join returns all bit strings, one behind the other.
func Join(l ...api.Bits) (api.Bits, api.Errno) {
	n := 0
	for _, x := range l {
		if !Sound(x) {
			return api.Bits{}, api.ErrBitForm
		}
		n += x.N
	}
	b := make([]byte, bytesOf(n))
	at := 0
	for _, x := range l {
		lay(b, at, x.B)
		at += x.N
	}
	return api.Bits{B: b, N: n}, api.OK
}

// bytesOf avoids the overflow that adding before the division would have.
func bytesOf(n int) int {
	if n%8 != 0 {
		return n/8 + 1
	}
	return n / 8
}

// write sets width bits of b, all of which are 0 before.
func write(b []byte, at int, v uint64, width int) {
	for width > 0 {
		free := 8 - at%8
		n := min(free, width)
		part := byte(v>>(width-n)) & (byte(1)<<n - 1)
		b[at/8] |= part << (free - n)
		at += n
		width -= n
	}
}

func read(b []byte, at, width int) uint64 {
	v := uint64(0)
	for width > 0 {
		left := 8 - at%8
		n := min(left, width)
		part := b[at/8] >> (left - n) & (byte(1)<<n - 1)
		v = v<<n | uint64(part)
		at += n
		width -= n
	}
	return v
}

// lay writes the bytes of a valid bit string into b, whose bits are 0 from the index at on.
func lay(b []byte, at int, x []byte) {
	first, shift := at/8, at%8
	for i, c := range x {
		b[first+i] |= c >> shift
		// Only unused bits, which are 0, may lie beyond the end of b.
		if low := c << (8 - shift); low != 0 {
			b[first+i+1] |= low
		}
	}
}
