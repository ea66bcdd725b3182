package sum32

import (
	"bytes"
	"encoding/hex"
	"hash/crc32"
	"math"
	"slices"
	"testing"

	"wheelhouse/api"
)

// draw answers numbers without a pattern, the same ones in each run.
func draw() func() uint32 {
	state := uint64(0x9e3779b97f4a7c15)
	return func() uint32 {
		state = state*6364136223846793005 + 1442695040888963407
		return uint32(state >> 32)
	}
}

// noise is n bytes without a pattern.
func noise(next func() uint32, n int) []byte {
	b := make([]byte, n)
	for i := range b {
		b[i] = byte(next() >> 7)
	}
	return b
}

// texts are of all lengths up to some, with and without a pattern.
func texts() [][]byte {
	next := draw()
	l := [][]byte{nil, {}, []byte("123456789"), []byte("a"), bytes.Repeat([]byte{0xff}, 300), make([]byte, 300), noise(next, 4096)}
	for i := range 256 {
		l = append(l, []byte{byte(i)})
	}
	for n := range 70 {
		l = append(l, noise(next, n), make([]byte, n), bytes.Repeat([]byte{0xff}, n))
	}
	return l
}

// starts are sums from which others go on.
func starts() []uint32 {
	l := []uint32{0, 1, 0x80000000, 0x7fffffff, math.MaxUint32, 0xedb88320, 0xcbf43926, 0x04c11db7}
	next := draw()
	for range 20 {
		l = append(l, next())
	}
	return l
}

// P2.1: numbers that are known from elsewhere.
func TestSumKnown(t *testing.T) {
	for s, want := range map[string]uint32{
		"":                       0,
		"\x00":                   0xd202ef8d,
		"\xff":                   0xff000000,
		"a":                      0xe8b7be43,
		"abc":                    0x352441c2,
		"123456789":              0xcbf43926,
		"\x00\x00\x00\x00":       0x2144df1c,
		"\xff\xff\xff\xff":       0xffffffff,
		string(make([]byte, 32)): 0x190a55ad,
		"The quick brown fox jumps over the lazy dog": 0x414fa339,
	} {
		if sum := Sum([]byte(s)); sum != want {
			t.Errorf("Sum(%q) = %#08x; want %#08x", s, sum, want)
		}
	}
	if sum := Sum(nil); sum != 0 {
		t.Errorf("Sum(nil) = %#x", sum)
	}
}

// P2.1: the library has the same sum, worked out another way.
func TestSumAgainstTheLibrary(t *testing.T) {
	for _, b := range texts() {
		if sum, want := Sum(b), crc32.ChecksumIEEE(b); sum != want {
			t.Errorf("Sum(%x) = %#08x; want %#08x", b, sum, want)
		}
	}
}

// P2.1
func TestOnAgainstTheLibrary(t *testing.T) {
	for _, start := range starts() {
		for _, b := range texts() {
			if sum, want := On(start, b), crc32.Update(start, crc32.IEEETable, b); sum != want {
				t.Errorf("On(%#x, %x) = %#08x; want %#08x", start, b, sum, want)
			}
		}
	}
}

// P2.1: a sum that goes on with nothing is itself.
func TestOnWithNothing(t *testing.T) {
	for _, start := range starts() {
		if a, b := On(start, nil), On(start, []byte{}); a != start || b != start {
			t.Errorf("On(%#x, none) = %#x, %#x", start, a, b)
		}
	}
}

// P2.1
func TestOnOfNoughtIsSum(t *testing.T) {
	for _, b := range texts() {
		if On(0, b) != Sum(b) {
			t.Errorf("On(0, %x) = %#x; Sum %#x", b, On(0, b), Sum(b))
		}
	}
}

// P2.2
func TestSealLaysTheSumBehind(t *testing.T) {
	for _, c := range []struct{ b, want string }{
		{"", "00000000"},
		{"00", "008def02d2"},
		{"61", "6143beb7e8"},
		{"313233343536373839", "3132333435363738392639f4cb"},
		{"ffffffff", "ffffffffffffffff"},
	} {
		b, _ := hex.DecodeString(c.b)
		if sealed := hex.EncodeToString(Seal(b)); sealed != c.want {
			t.Errorf("Seal(%s) = %s; want %s", c.b, sealed, c.want)
		}
	}
	for _, b := range texts() {
		n := crc32.ChecksumIEEE(b)
		want := append(bytes.Clone(b), byte(n), byte(n>>8), byte(n>>16), byte(n>>24))
		if sealed := Seal(b); !bytes.Equal(sealed, want) {
			t.Errorf("Seal(%x) = %x; want %x", b, sealed, want)
		}
	}
}

// P2.2
func TestOpenTooShort(t *testing.T) {
	for _, b := range [][]byte{nil, {}, {0}, {0, 0}, {0, 0, 0}, {0xff, 0xff, 0xff}, {1, 2, 3}} {
		if out, e := Open(b); len(out) != 0 || e != api.ErrShort {
			t.Errorf("Open(%x) = %x, %d; want ErrShort alone", b, out, e)
		}
	}
}

// P2.2: the room behind three bytes is none of theirs.
func TestOpenNotBehindTheLength(t *testing.T) {
	room := make([]byte, 8)
	if out, e := Open(room[:3]); len(out) != 0 || e != api.ErrShort {
		t.Errorf("Open = %x, %d; want ErrShort alone", out, e)
	}
}

// P2.2
func TestOpenFourBytes(t *testing.T) {
	if out, e := Open(make([]byte, 4)); len(out) != 0 || e != api.OK {
		t.Errorf("Open(00000000) = %x, %d; want nothing, OK", out, e)
	}
	for bit := range 32 {
		b := make([]byte, 4)
		b[bit/8] = 1 << (bit % 8)
		if out, e := Open(b); len(out) != 0 || e != api.ErrSum {
			t.Errorf("Open(%x) = %x, %d; want ErrSum alone", b, out, e)
		}
	}
}

// P2.2: a sum that is another one, whatever it is instead.
func TestOpenWrongSum(t *testing.T) {
	for _, s := range []string{
		"3132333435363738392639f4ca", // one bit
		"313233343536373839cbf43926", // the highest byte first
		"313233343536373839d9c60b34", // not turned about
		"31323334353637383900000000",
		"313233343536373839ffffffff",
		"2639f4cb313233343536373839", // ahead
		"3132333435363738392639f4",   // a byte lost at the end
		"32333435363738392639f4cb",   // a byte lost at the beginning
		"3132333435363738392639f4cb00",
		"003132333435363738392639f4cb",
		"ffffffff",
		"0000000000",
	} {
		b, _ := hex.DecodeString(s)
		if out, e := Open(b); len(out) != 0 || e != api.ErrSum {
			t.Errorf("Open(%s) = %x, %d; want ErrSum alone", s, out, e)
		}
	}
}

// P2.2: four bytes open just what has them as its sum.
func TestOpenJustTheSum(t *testing.T) {
	next := draw()
	for n := range 40 {
		b := noise(next, n)
		_, e := Open(b)
		want := api.ErrShort
		if n >= 4 {
			want = api.ErrSum
			if bytes.Equal(Seal(b[:n-4]), b) {
				want = api.OK
			}
		}
		if e != want {
			t.Errorf("Open(%x) = %d; want %d", b, e, want)
		}
	}
}

// P2.3
func TestSumGoesOnFromPieceToPiece(t *testing.T) {
	next := draw()
	for n := range 40 {
		b := noise(next, n)
		want := Sum(b)
		for i := 0; i <= n; i++ {
			if sum := On(Sum(b[:i]), b[i:]); sum != want {
				t.Errorf("%x, cut at %d: %#x; want %#x", b, i, sum, want)
			}
			for j := i; j <= n; j++ {
				if sum := On(On(Sum(b[:i]), b[i:j]), b[j:]); sum != want {
					t.Errorf("%x, cut at %d, %d: %#x; want %#x", b, i, j, sum, want)
				}
			}
		}
		sum := uint32(0)
		for _, c := range b {
			sum = On(sum, []byte{c})
		}
		if sum != want {
			t.Errorf("%x, byte by byte: %#x; want %#x", b, sum, want)
		}
	}
}

// P2.3
func TestSealedIsOpened(t *testing.T) {
	for _, b := range texts() {
		if out, e := Open(Seal(b)); e != api.OK || !bytes.Equal(out, b) {
			t.Errorf("Open of Seal(%x) = %x, %d", b, out, e)
		}
		if out, e := Open(Seal(Seal(b))); e != api.OK || !bytes.Equal(out, Seal(b)) {
			t.Errorf("Open of Seal of Seal(%x) = %x, %d", b, out, e)
		}
	}
}

// turned is b with those bits turned that which has set, from bit at on, of each byte the lowest first; what falls behind b is left out.
func turned(b []byte, at int, which uint32) []byte {
	out := bytes.Clone(b)
	for i := range 32 {
		if bit := at + i; which>>i&1 == 1 && bit < 8*len(out) {
			out[bit/8] ^= 1 << (bit % 8)
		}
	}
	return out
}

// patterns have their lowest bit set: one bit, all pairs, all rows, and some without a pattern.
func patterns() []uint32 {
	l := []uint32{1, 0x04c11db7, 0xedb88321, 0xaaaaaaab, 0x55555555, 0x80000001, 0xffffffff}
	for i := 1; i < 32; i++ {
		l = append(l, 1|1<<i, 1<<i-1)
	}
	next := draw()
	for range 100 {
		l = append(l, next()|1)
	}
	return l
}

// P2.3: at all places, so that they go across the borders of bytes, and into the sum.
func TestTurnedBitsAreFound(t *testing.T) {
	next := draw()
	for _, n := range []int{0, 1, 2, 3, 4, 5, 8, 13, 40} {
		for _, b := range [][]byte{noise(next, n), make([]byte, n), bytes.Repeat([]byte{0xff}, n)} {
			sealed := Seal(b)
			for at := range 8 * len(sealed) {
				for _, p := range patterns() {
					x := turned(sealed, at, p)
					if out, e := Open(x); len(out) != 0 || e != api.ErrSum {
						t.Fatalf("%x, %#x turned at %d: Open = %x, %d; want ErrSum alone", sealed, p, at, out, e)
					}
				}
			}
		}
	}
}

// P2.3: more than 32 are not promised to be found; these 33 are the least that lead to the same sum.
func TestThirtyThreeTurnedBits(t *testing.T) {
	sealed := Seal([]byte("123456789"))
	// The pattern of the sum with its highest bit, which the register does not hold, ahead of it.
	x := turned(turned(sealed, 16, 1), 17, pattern)
	if out, e := Open(x); e != api.OK || bytes.Equal(out, []byte("123456789")) {
		t.Errorf("Open(%x) = %x, %d", x, out, e)
	}
}

// P2.3
func TestExclusiveOrOfThree(t *testing.T) {
	next := draw()
	for n := range 100 {
		a, b, c := noise(next, n), noise(next, n), noise(next, n)
		all := make([]byte, n)
		for i := range all {
			all[i] = a[i] ^ b[i] ^ c[i]
		}
		if sum, want := Sum(all), Sum(a)^Sum(b)^Sum(c); sum != want {
			t.Errorf("%x, %x, %x: %#x; want %#x", a, b, c, sum, want)
		}
	}
}

// P2.3
func TestUnlikeSumsStayUnlike(t *testing.T) {
	for _, start := range starts() {
		for bit := range 32 {
			other := start ^ 1<<bit
			for _, b := range [][]byte{nil, {0}, []byte("1234"), make([]byte, 9), bytes.Repeat([]byte{0xff}, 33)} {
				if On(start, b) == On(other, b) {
					t.Errorf("%#x and %#x lead to %#x by %x", start, other, On(start, b), b)
				}
			}
		}
	}
}

// P2.3: a great many sums at once, by each byte.
func TestUnlikeSumsStayUnlikeInAllBytes(t *testing.T) {
	next := draw()
	var from []uint32
	for i := range uint32(2048) {
		from = append(from, i, i<<21, next())
	}
	slices.Sort(from)
	from = slices.Compact(from)
	for c := range 256 {
		var to []uint32
		for _, sum := range from {
			to = append(to, On(sum, []byte{byte(c)}))
		}
		slices.Sort(to)
		if n := len(slices.Compact(to)); n != len(from) {
			t.Errorf("byte %d: %d sums became %d", c, len(from), n)
		}
	}
}

// R4: neither the bytes that are handed in are changed, nor the room behind them.
func TestArgumentsAreLeft(t *testing.T) {
	whole := append(Seal([]byte("abc")), "defghijklmnop"...)
	for n := range len(whole) {
		room := bytes.Clone(whole)
		b := room[:n]
		On(7, b)
		Sum(b)
		Seal(b)
		Open(b)
		if !bytes.Equal(room, whole) {
			t.Errorf("length %d: the room is %q", n, room)
		}
	}
}

// fill writes a byte into all of a list's memory, spare room too.
func fill(b []byte, c byte) {
	b = b[:cap(b)]
	for i := range b {
		b[i] = c
	}
}

// open is Open where it can't fail.
func open(b []byte) []byte {
	out, _ := Open(b)
	return out
}

// R4: what is answered shares nothing with what was handed in, spare room too.
func TestAnswersAreNewMemory(t *testing.T) {
	for what, f := range map[string]func([]byte) []byte{"Seal": Seal, "Open": open} {
		for _, text := range []string{"", "a", "123456789"} {
			room := append(Seal([]byte(text)), "and room behind it"...)
			b := room[:len(text)+4]
			out := f(b)
			want := bytes.Clone(out)
			fill(room, '.')
			if !bytes.Equal(out, want) {
				t.Errorf("%s: the answer became %q", what, out)
			}
			fill(out, '!')
			if i := bytes.IndexByte(room[:cap(room)], '!'); i >= 0 {
				t.Errorf("%s: the argument became %q", what, room)
			}
		}
	}
}

// R4: two answers share nothing either.
func TestAnswersShareNothing(t *testing.T) {
	b := []byte("123456789")
	first, second := Seal(b), Seal(b)
	fill(first, '!')
	if string(second) != "123456789\x26\x39\xf4\xcb" {
		t.Errorf("%q", second)
	}
	out, again := open(second), open(second)
	fill(out, '!')
	if string(again) != "123456789" {
		t.Errorf("%q", again)
	}
}

// R5: the same arguments have the same answer, whatever was called between.
func TestOneAnswer(t *testing.T) {
	for _, b := range texts() {
		sum, sealed := Sum(b), Seal(b)
		On(sum, []byte("between"))
		Open([]byte("between"))
		if Sum(b) != sum || !bytes.Equal(Seal(b), sealed) {
			t.Errorf("%x: %#x, then %#x", b, sum, Sum(b))
		}
	}
}

// The chapter's examples.
func TestExamples(t *testing.T) {
	if sum := Sum([]byte("123456789")); sum != 0xcbf43926 {
		t.Errorf("%#x", sum)
	}
	sealed := Seal(nil)
	if string(sealed) != "\x00\x00\x00\x00" {
		t.Errorf("%x", sealed)
	}
	if out, e := Open(sealed); len(out) != 0 || e != api.OK {
		t.Error(out, e)
	}
	if out, e := Open([]byte{1, 2, 3}); len(out) != 0 || e != api.ErrShort {
		t.Error(out, e)
	}
}
