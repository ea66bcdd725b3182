// Package octet lays numbers down as bytes, the lowest one first, with a sign or without: see shared/doc/01-octet.md.
package octet

import "wheelhouse/api"

const digits = "0123456789abcdef"

// Put lays a number down behind bytes.
func Put(b []byte, width int, n uint64) ([]byte, api.Errno) {
	if !isWidth(width) {
		return nil, api.ErrArg
	}
	if low, _ := Low(n, 8*width); low != n {
		return nil, api.ErrRange
	}
	return lay(b, width, n), api.OK
}

// PutInt lays a number with a sign down behind bytes.
func PutInt(b []byte, width int, n int64) ([]byte, api.Errno) {
	if !isWidth(width) {
		return nil, api.ErrArg
	}
	if signed, _ := Sign(uint64(n), 8*width); signed != n {
		return nil, api.ErrRange
	}
	return lay(b, width, uint64(n)), api.OK
}

// Get is the number at a place.
func Get(b []byte, at, width int) (uint64, api.Errno) {
	if !isWidth(width) || at < 0 || at > len(b) {
		return 0, api.ErrArg
	}
	if len(b)-at < width {
		return 0, api.ErrShort
	}
	n := uint64(0)
	for i := range width {
		n |= uint64(b[at+i]) << (8 * i)
	}
	return n, api.OK
}

// GetInt is the number with a sign at a place.
func GetInt(b []byte, at, width int) (int64, api.Errno) {
	n, e := Get(b, at, width)
	if e != api.OK {
		return 0, e
	}
	return Sign(n, 8*width)
}

// Low is the lowest bits of a number.
func Low(n uint64, bits int) (uint64, api.Errno) {
	if !isBits(bits) {
		return 0, api.ErrArg
	}
	return n & mask(bits), api.OK
}

// Sign is the lowest bits as a number with a sign.
func Sign(n uint64, bits int) (int64, api.Errno) {
	low, e := Low(n, bits)
	if e != api.OK {
		return 0, e
	}
	if low>>(bits-1) == 1 {
		// All higher bits set is the same as 2^bits less, by wrap-round.
		low |= ^mask(bits)
	}
	return int64(low), api.OK
}

// Hex is bytes in digits.
func Hex(b []byte) string {
	text := make([]byte, 0, 2*len(b))
	for _, x := range b {
		text = append(text, digits[x>>4], digits[x&15])
	}
	return string(text)
}

// Unhex is back.
func Unhex(s string) ([]byte, api.Errno) {
	if len(s)%2 != 0 {
		return nil, api.ErrForm
	}
	b := make([]byte, 0, len(s)/2)
	for i := range len(s) / 2 {
		high, isHigh := digit(s[2*i])
		low, isLow := digit(s[2*i+1])
		if !isHigh || !isLow {
			return nil, api.ErrForm
		}
		b = append(b, high<<4|low)
	}
	return b, api.OK
}

func isWidth(width int) bool {
	return width >= 1 && width <= 8
}

func isBits(bits int) bool {
	return bits >= 1 && bits <= 64
}

// mask has the lowest bits set; at 64 the shift leaves 0, and 0 less 1 is all of them.
func mask(bits int) uint64 {
	return uint64(1)<<bits - 1
}

// lay answers new bytes: appending to b itself could write into the room behind it, which is its owner's.
func lay(b []byte, width int, n uint64) []byte {
	out := make([]byte, len(b), len(b)+width)
	copy(out, b)
	for i := range width {
		out = append(out, byte(n>>(8*i)))
	}
	return out
}

// digit is what a digit stands for; capital letters are none, so that each text has one form.
func digit(c byte) (byte, bool) {
	switch {
	case c >= '0' && c <= '9':
		return c - '0', true
	case c >= 'a' && c <= 'f':
		return c - 'a' + 10, true
	}
	return 0, false
}
