package sum16

import (
	"bytes"
	"math"
	"testing"
)

// draw answers numbers without a pattern, the same ones in each run.
func draw() func() uint32 {
	state := uint64(0x9e3779b97f4a7c15)
	return func() uint32 {
		state = state*6364136223846793005 + 1442695040888963407
		return uint32(state >> 32)
	}
}

// noise is n bytes without a pattern.
func noise(next func() uint32, n int) []byte {
	b := make([]byte, n)
	for i := range b {
		b[i] = byte(next() >> 7)
	}
	return b
}

// texts are of all lengths up to some, with and without a pattern.
func texts() [][]byte {
	next := draw()
	l := [][]byte{nil, {}, []byte("123456789"), []byte("A"), bytes.Repeat([]byte{0xff}, 300), make([]byte, 300), noise(next, 889), noise(next, 4096)}
	for i := range 256 {
		l = append(l, []byte{byte(i)})
	}
	for n := range 70 {
		l = append(l, noise(next, n), make([]byte, n), bytes.Repeat([]byte{0xff}, n))
	}
	return l
}

// starts are sums from which others go on.
func starts() []uint16 {
	l := []uint16{0, 1, 0xff, 0x100, 0x1021, 0x31c3, 0x7fff, 0x8000, 0x8810, math.MaxUint16}
	next := draw()
	for range 20 {
		l = append(l, uint16(next()))
	}
	return l
}

// behind is bytes with a sum behind them, its higher byte first.
func behind(b []byte, sum uint16) []byte {
	return append(bytes.Clone(b), byte(sum>>8), byte(sum))
}

// remainder is the sum worked out another way: what is left of the text, with the start in its first 16 bits and 16 noughts behind, when 0x11021 is taken off by long division.
func remainder(start uint16, b []byte) uint16 {
	text := behind(b, 0)
	text[0] ^= byte(start >> 8)
	text[1] ^= byte(start)
	rest := uint32(0)
	for _, c := range text {
		rest = rest<<8 | uint32(c)
		for i := 23; i >= 16; i-- {
			if rest>>i&1 == 1 {
				rest ^= 0x11021 << (i - 16)
			}
		}
	}
	return uint16(rest)
}

// P3.1: numbers that are known from elsewhere.
func TestSumKnown(t *testing.T) {
	for s, want := range map[string]uint16{
		"":                  0,
		"\x00":              0,
		"\x01":              0x1021,
		"\x02":              0x2042,
		"\x10":              0x1231,
		"\x80":              0x9188,
		"\xff":              0x1ef0,
		"A":                 0x58e5,
		"\x00\x01":          0x1021,
		"\x01\x00":          0x3331,
		"123456789":         0x31c3,
		"\x00123456789":     0x31c3,
		"123456789\x31\xc3": 0,
	} {
		if sum := Sum([]byte(s)); sum != want {
			t.Errorf("Sum(%q) = %#04x; want %#04x", s, sum, want)
		}
	}
	if sum := Sum(nil); sum != 0 {
		t.Errorf("Sum(nil) = %#x", sum)
	}
}

// P3.1
func TestSumIsTheRemainder(t *testing.T) {
	for _, b := range texts() {
		if sum, want := Sum(b), remainder(0, b); sum != want {
			t.Errorf("Sum(%x) = %#04x; want %#04x", b, sum, want)
		}
	}
}

// P3.1
func TestOnIsTheRemainder(t *testing.T) {
	for _, start := range starts() {
		for _, b := range texts() {
			if sum, want := On(start, b), remainder(start, b); sum != want {
				t.Errorf("On(%#x, %x) = %#04x; want %#04x", start, b, sum, want)
			}
		}
	}
}

// P3.1: a sum that is known from elsewhere for a register that is all ones at first, or another number.
func TestOnKnown(t *testing.T) {
	for start, want := range map[uint16]uint16{0: 0x31c3, 0xffff: 0x29b1, 0x1d0f: 0xe5cc} {
		if sum := On(start, []byte("123456789")); sum != want {
			t.Errorf("On(%#x) = %#04x; want %#04x", start, sum, want)
		}
	}
}

// P3.1: a sum that goes on with nothing is itself.
func TestOnWithNothing(t *testing.T) {
	for start := range 1 << 16 {
		sum := uint16(start)
		if a, b := On(sum, nil), On(sum, []byte{}); a != sum || b != sum {
			t.Errorf("On(%#x, none) = %#x, %#x", sum, a, b)
		}
	}
}

// P3.1
func TestRightJustTheSum(t *testing.T) {
	for _, s := range []string{"", "\x00", "A", "123456789", "A\x58\xe5", "\xff\xff"} {
		b := []byte(s)
		for n := range 1 << 16 {
			sum := uint16(n)
			if is, want := Right(b, sum), remainder(0, b) == sum; is != want {
				t.Errorf("Right(%q, %#x) = %t", s, sum, is)
			}
		}
	}
}

// P3.1
func TestRightNotByOneBit(t *testing.T) {
	for _, b := range texts() {
		sum := remainder(0, b)
		if !Right(b, sum) {
			t.Errorf("Right(%x, %#x) is false", b, sum)
		}
		for bit := range 16 {
			if Right(b, sum^1<<bit) {
				t.Errorf("Right(%x, %#x) is true; the sum is %#x", b, sum^1<<bit, sum)
			}
		}
	}
}

// P3.1: sums that other ways of taking the bits lead to.
func TestRightOfNoOtherSum(t *testing.T) {
	for _, sum := range []uint16{
		0xc331, // its bytes about
		0xce3c, // each bit turned about
		0x29b1, // all ones at first
		0x2189, // the lowest bit first
		0,
		math.MaxUint16,
	} {
		if Right([]byte("123456789"), sum) {
			t.Errorf("%#x is right", sum)
		}
	}
	if !Right(nil, 0) || Right(nil, 1) || Right(nil, math.MaxUint16) {
		t.Error("of no bytes just 0 is right")
	}
}

// P3.1: the room behind the bytes is none of theirs.
func TestNotBehindTheLength(t *testing.T) {
	room := []byte("123456789")
	if On(7, room[:1]) != On(7, []byte("1")) || Sum(room[:0]) != 0 || !Right(room[:0], 0) {
		t.Error("what lies behind the length was summed")
	}
}

// P3.2
func TestSumGoesOnFromPieceToPiece(t *testing.T) {
	next := draw()
	for n := range 40 {
		b := noise(next, n)
		want := Sum(b)
		for i := 0; i <= n; i++ {
			if sum := On(Sum(b[:i]), b[i:]); sum != want {
				t.Errorf("%x, cut at %d: %#x; want %#x", b, i, sum, want)
			}
			for j := i; j <= n; j++ {
				if sum := On(On(Sum(b[:i]), b[i:j]), b[j:]); sum != want {
					t.Errorf("%x, cut at %d, %d: %#x; want %#x", b, i, j, sum, want)
				}
			}
		}
		sum := uint16(0)
		for _, c := range b {
			sum = On(sum, []byte{c})
		}
		if sum != want {
			t.Errorf("%x, byte by byte: %#x; want %#x", b, sum, want)
		}
	}
}

// P3.2
func TestSumBehindItsBytes(t *testing.T) {
	for _, b := range texts() {
		whole := behind(b, Sum(b))
		if sum := Sum(whole); sum != 0 || !Right(whole, 0) {
			t.Errorf("Sum(%x) = %#x; want 0", whole, sum)
		}
		if sum := On(Sum(b), whole[len(b):]); sum != 0 {
			t.Errorf("%x goes on with its sum to %#x; want 0", b, sum)
		}
	}
}

// P3.2: just the sum leads to 0, and its lower byte first does not.
func TestNoOtherBehindTheBytes(t *testing.T) {
	b := []byte("123456789")
	for n := range 1 << 16 {
		sum := uint16(n)
		if is, want := Sum(behind(b, sum)) == 0, sum == 0x31c3; is != want {
			t.Errorf("%#x behind: sum 0 is %t", sum, is)
		}
	}
	if Sum([]byte("123456789\xc3\x31")) == 0 {
		t.Error("its lower byte first has the sum 0")
	}
}

// turned is b with those bits turned that which has set, its highest one at bit at, of each byte the highest first; what falls behind b is left out.
func turned(b []byte, at int, which uint16) []byte {
	out := bytes.Clone(b)
	for i := range 16 {
		if bit := at + i; which>>(15-i)&1 == 1 && bit < 8*len(out) {
			out[bit/8] ^= 0x80 >> (bit % 8)
		}
	}
	return out
}

// P3.2: every choice of bits within 16, at all places of a byte, so that they go across its borders: each has its highest bit set, and begins where it begins.
func TestAllTurnedBitsAreFound(t *testing.T) {
	b := []byte("12345")
	sum := Sum(b)
	for at := range 8 * len(b) {
		for which := 1 << 15; which < 1<<16; which++ {
			if x := turned(b, at, uint16(which)); Sum(x) == sum || Right(x, sum) {
				t.Fatalf("%x, %#x turned at %d: the sum is %#x still", b, which, at, sum)
			}
		}
	}
}

// patterns have their highest bit set: one bit, all pairs, all rows, and some without a pattern.
func patterns() []uint16 {
	l := []uint16{0x8000, 0x8810, 0x8408, 0x9021, 0xaaaa, 0xd555, 0xffff}
	for i := range 15 {
		l = append(l, 0x8000|1<<i, 0xffff<<i)
	}
	next := draw()
	for range 50 {
		l = append(l, uint16(next())|0x8000)
	}
	return l
}

// P3.2: in longer texts too, and in the sum behind them.
func TestTurnedBitsAreFound(t *testing.T) {
	next := draw()
	for _, n := range []int{0, 1, 2, 3, 7, 14, 64} {
		for _, b := range [][]byte{noise(next, n), make([]byte, n), bytes.Repeat([]byte{0xff}, n)} {
			whole := behind(b, Sum(b))
			for at := range 8 * len(whole) {
				for _, p := range patterns() {
					if x := turned(whole, at, p); Sum(x) == 0 || Right(x, 0) {
						t.Fatalf("%x, %#x turned at %d: the sum is 0 still", whole, p, at)
					}
				}
			}
		}
	}
}

// P3.2: more than 16 are not promised to be found; these lie within 17, and lead to the same sum.
func TestSeventeenBits(t *testing.T) {
	b := []byte("123456789")
	// The pattern with the bit above it, which the register does not hold, ahead of it.
	x := turned(turned(b, 12, 0x8000), 13, pattern)
	if bytes.Equal(x, b) || !Right(x, Sum(b)) {
		t.Errorf("Sum(%x) = %#x; of %x it is %#x", x, Sum(x), b, Sum(b))
	}
}

// P3.2
func TestExclusiveOrOfTwo(t *testing.T) {
	next := draw()
	for n := range 100 {
		for _, pair := range [][2][]byte{
			{noise(next, n), noise(next, n)},
			{noise(next, n), make([]byte, n)},
			{noise(next, n), bytes.Repeat([]byte{0xff}, n)},
		} {
			both := make([]byte, n)
			for i := range both {
				both[i] = pair[0][i] ^ pair[1][i]
			}
			if sum, want := Sum(both), Sum(pair[0])^Sum(pair[1]); sum != want {
				t.Errorf("%x, %x: %#x; want %#x", pair[0], pair[1], sum, want)
			}
		}
	}
}

// P3.2: all sums at once, by each byte.
func TestUnlikeSumsStayUnlikeByEachByte(t *testing.T) {
	for c := range 256 {
		stayUnlike(t, []byte{byte(c)})
	}
}

// P3.2
func TestUnlikeSumsStayUnlikeByTexts(t *testing.T) {
	next := draw()
	for _, b := range [][]byte{nil, []byte("123456789"), make([]byte, 3), bytes.Repeat([]byte{0xff}, 17), noise(next, 40)} {
		stayUnlike(t, b)
	}
}

// stayUnlike fails if two of all the sums become one by b.
func stayUnlike(t *testing.T, b []byte) {
	t.Helper()
	from := make([]int, 1<<16)
	for n := range 1 << 16 {
		sum := On(uint16(n), b)
		if from[sum] != 0 {
			t.Errorf("%#x and %#x lead to %#x by %x", from[sum]-1, n, sum, b)
		}
		from[sum] = n + 1
	}
}

// R4: neither the bytes that are handed in are changed, nor the room behind them.
func TestArgumentsAreLeft(t *testing.T) {
	whole := []byte("123456789\x31\xc3, and room behind it")
	for n := range len(whole) {
		room := bytes.Clone(whole)
		b := room[:n]
		On(7, b)
		Sum(b)
		Right(b, 0)
		Right(b, Sum(b))
		if !bytes.Equal(room, whole) {
			t.Errorf("length %d: the room is %q", n, room)
		}
	}
}

// R4: nothing of the bytes is kept: other bytes in the same memory have their own sum.
func TestArgumentsAreNotKept(t *testing.T) {
	room := []byte("123456789")
	first := Sum(room)
	copy(room, "AAAAAAAAA")
	if sum, want := Sum(room), remainder(0, []byte("AAAAAAAAA")); sum != want || Right(room, first) || On(first, room) != remainder(first, room) {
		t.Errorf("Sum = %#x; want %#x", sum, want)
	}
	copy(room, "123456789")
	if sum := Sum(room); sum != first {
		t.Errorf("Sum = %#x; want %#x", sum, first)
	}
}

// R5: the same arguments have the same answer, whatever was called between.
func TestOneAnswer(t *testing.T) {
	for _, b := range texts() {
		sum, on := Sum(b), On(0x1234, b)
		On(sum, []byte("between"))
		Right([]byte("between"), sum)
		if Sum(b) != sum || On(0x1234, b) != on || !Right(b, sum) {
			t.Errorf("%x: %#x, then %#x", b, sum, Sum(b))
		}
	}
}

// The chapter's examples.
func TestExamples(t *testing.T) {
	if sum := Sum([]byte("123456789")); sum != 0x31c3 {
		t.Errorf("%#x", sum)
	}
	if sum := Sum(nil); sum != 0 {
		t.Errorf("%#x", sum)
	}
	if sum := Sum([]byte("A")); sum != 0x58e5 {
		t.Errorf("%#x", sum)
	}
	if sum := Sum([]byte{'A', 0x58, 0xe5}); sum != 0 {
		t.Errorf("%#x", sum)
	}
}
