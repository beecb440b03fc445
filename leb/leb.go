// Package leb is layer 1, numbers in bytes of seven digits of two each: see shared/doc/01-leb.md.
package leb

import "avocet/api"

const (
	group = 7   // digits of two in a byte
	more  = 128 // added to a byte that isn't the last one
)

// U lays a number.
func U(b []byte, v uint64) []byte {
	out := grown(b, LenU(v))
	for v >= more {
		out = append(out, byte(v%more)+more)
		v >>= group
	}
	return append(out, byte(v))
}

// S lays a number that may be below 0.
func S(b []byte, v int64) []byte {
	out := grown(b, LenS(v))
	for !lastOfSigned(v) {
		out = append(out, byte(v&(more-1))+more)
		v >>= group
	}
	return append(out, byte(v&(more-1)))
}

// LenU is how many bytes a number is.
func LenU(v uint64) int {
	n := 1
	for v >= more {
		v >>= group
		n++
	}
	return n
}

// LenS is how many bytes a number is that may be below 0.
func LenS(v int64) int {
	n := 1
	for !lastOfSigned(v) {
		v >>= group
		n++
	}
	return n
}

// lastOfSigned tells whether seven digits, the highest one the sign's, hold all of v.
func lastOfSigned(v int64) bool { return v >= -64 && v <= 63 }

// grown is a copy of b with room for n more: what is laid behind b must not be seen through another slice of b's memory.
func grown(b []byte, n int) []byte {
	out := make([]byte, len(b), len(b)+n)
	copy(out, b)
	return out
}

// ReadU is a number of so many digits of two, and the place behind.
func ReadU(b []byte, at, bits int) (uint64, int, api.Errno) {
	digits, _, behind, e := read(b, at, bits, fitsUnsigned)
	return digits, behind, e
}

// ReadS is a number that may be below 0.
func ReadS(b []byte, at, bits int) (int64, int, api.Errno) {
	digits, width, behind, e := read(b, at, bits, fitsSigned)
	return extended(digits, width), behind, e
}

// read gathers the digits, how many were read, and the place behind. What the last byte that may be has to hold is asked of fits, as only there signed and unsigned numbers differ.
func read(b []byte, at, bits int, fits func(c byte, digits int) bool) (uint64, int, int, api.Errno) {
	if bits < 1 || bits > 64 || at < 0 || at > len(b) {
		return 0, 0, 0, api.ErrArg
	}
	next := taker(b, at)
	var digits uint64
	for low := 0; ; low += group {
		c, behind, ok := next()
		if !ok {
			return 0, 0, 0, api.ErrShort
		}
		if low+group >= bits && (c >= more || !fits(c, bits-low)) {
			return 0, 0, 0, api.ErrForm
		}
		digits |= uint64(c%more) << low
		if c < more {
			return digits, low + group, behind, api.OK
		}
	}
}

// taker is a closure that keeps its place in b: each call takes a byte, and tells the place behind it; false, if there is none.
func taker(b []byte, at int) func() (byte, int, bool) {
	return func() (byte, int, bool) {
		if at >= len(b) {
			return 0, 0, false
		}
		c := b[at]
		at++
		return c, at, true
	}
}

// fitsUnsigned tells whether a byte below 128 is nothing but its lowest digits.
func fitsUnsigned(c byte, digits int) bool { return c>>digits == 0 }

// fitsSigned tells whether a byte below 128 is its lowest digits, of which the highest, the sign's, goes on upwards.
func fitsSigned(c byte, digits int) bool {
	sign := c >> (digits - 1)
	return sign == 0 || sign == (more-1)>>(digits-1)
}

// extended lets the highest of width digits go on upwards; of 64 or more, it stands at the top already.
func extended(digits uint64, width int) int64 {
	if width >= 64 {
		return int64(digits)
	}
	return int64(digits<<(64-width)) >> (64 - width)
}
