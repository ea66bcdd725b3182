package octet

import (
	"bytes"
	"encoding/hex"
	"math"
	"math/big"
	"strings"
	"testing"

	"wheelhouse/api"
)

// wrongWidths are none, wherever a width is asked for.
var wrongWidths = []int{math.MinInt, -8, -1, 0, 9, 16, 64, math.MaxInt}

// wrongBits are no count of bits.
var wrongBits = []int{math.MinInt, -64, -1, 0, 65, 128, math.MaxInt}

// numbers are the ones about each power of two, and some without a pattern.
func numbers() []uint64 {
	l := []uint64{0, 0x1f5, 258, 0x0123456789abcdef, 0xfedcba9876543210, 0x5555555555555555, 0xaaaaaaaaaaaaaaaa}
	for i := range 64 {
		p := uint64(1) << i
		l = append(l, p-1, p, p+1, -p-1, -p, -p+1)
	}
	return l
}

// power is 2^bits, by a way that shares nothing with the package.
func power(bits int) *big.Int {
	return new(big.Int).Lsh(big.NewInt(1), uint(bits))
}

// lowOf is what is left of n by 2^bits.
func lowOf(n uint64, bits int) *big.Int {
	return new(big.Int).Mod(new(big.Int).SetUint64(n), power(bits))
}

// signOf is lowOf less 2^bits, if its highest bit is 1.
func signOf(n uint64, bits int) *big.Int {
	low := lowOf(n, bits)
	if low.Cmp(power(bits-1)) >= 0 {
		low.Sub(low, power(bits))
	}
	return low
}

// bytesOf are the width bytes of n, or of n and 2^(8 width) together; false if there are none.
func bytesOf(n *big.Int, width int, signed bool) ([]byte, bool) {
	least, behind := big.NewInt(0), power(8*width)
	if signed {
		least, behind = new(big.Int).Neg(power(8*width-1)), power(8*width-1)
	}
	if n.Cmp(least) < 0 || n.Cmp(behind) >= 0 {
		return nil, false
	}
	b := new(big.Int).Mod(n, power(8*width)).FillBytes(make([]byte, width))
	for i, j := 0, width-1; i < j; i, j = i+1, j-1 {
		b[i], b[j] = b[j], b[i]
	}
	return b, true
}

func checkPut(t *testing.T, what string, ahead []byte, width int, n *big.Int, signed bool, got []byte, e api.Errno) {
	t.Helper()
	want, ok := bytesOf(n, width, signed)
	switch {
	case !ok && (e != api.ErrRange || len(got) != 0):
		t.Errorf("%s(%x, %d, %v) = %x, %d; want ErrRange alone", what, ahead, width, n, got, e)
	case ok && (e != api.OK || !bytes.Equal(got, append(bytes.Clone(ahead), want...))):
		t.Errorf("%s(%x, %d, %v) = %x, %d; want %x behind", what, ahead, width, n, got, e, want)
	}
}

// P1.1
func TestPutAllWidths(t *testing.T) {
	for _, ahead := range [][]byte{nil, {}, {7}, {0xff, 0, 0x80}} {
		for width := 1; width <= 8; width++ {
			for _, n := range numbers() {
				got, e := Put(ahead, width, n)
				checkPut(t, "Put", ahead, width, new(big.Int).SetUint64(n), false, got, e)
				got, e = PutInt(ahead, width, int64(n))
				checkPut(t, "PutInt", ahead, width, big.NewInt(int64(n)), true, got, e)
			}
		}
	}
}

// P1.1
func TestPutEdges(t *testing.T) {
	for _, c := range []struct {
		width int
		n     uint64
		want  string
		e     api.Errno
	}{
		{1, 0, "00", api.OK},
		{1, 255, "ff", api.OK},
		{1, 256, "", api.ErrRange},
		{2, 258, "0201", api.OK},
		{2, 65535, "ffff", api.OK},
		{2, 65536, "", api.ErrRange},
		{4, math.MaxUint32, "ffffffff", api.OK},
		{4, math.MaxUint32 + 1, "", api.ErrRange},
		{7, 1<<56 - 1, "ffffffffffffff", api.OK},
		{7, 1 << 56, "", api.ErrRange},
		{8, 0, "0000000000000000", api.OK},
		{8, 1 << 63, "0000000000000080", api.OK},
		{8, math.MaxUint64, "ffffffffffffffff", api.OK},
	} {
		b, e := Put([]byte("x"), c.width, c.n)
		if e != c.e || e == api.OK && hex.EncodeToString(b) != "78"+c.want || e != api.OK && len(b) != 0 {
			t.Errorf("Put(x, %d, %d) = %x, %d; want %s, %d", c.width, c.n, b, e, c.want, c.e)
		}
	}
}

// P1.1
func TestPutIntEdges(t *testing.T) {
	for _, c := range []struct {
		width int
		n     int64
		want  string
		e     api.Errno
	}{
		{1, 0, "00", api.OK},
		{1, -1, "ff", api.OK},
		{1, 127, "7f", api.OK},
		{1, -128, "80", api.OK},
		{1, 128, "", api.ErrRange},
		{1, 255, "", api.ErrRange},
		{1, -129, "", api.ErrRange},
		{1, -256, "", api.ErrRange},
		{2, -2, "feff", api.OK},
		{2, 32767, "ff7f", api.OK},
		{2, -32768, "0080", api.OK},
		{2, 32768, "", api.ErrRange},
		{2, -32769, "", api.ErrRange},
		{4, math.MinInt32, "00000080", api.OK},
		{4, math.MinInt32 - 1, "", api.ErrRange},
		{7, 1<<55 - 1, "ffffffffffff7f", api.OK},
		{7, 1 << 55, "", api.ErrRange},
		{7, math.MaxInt64, "", api.ErrRange},
		{7, math.MinInt64, "", api.ErrRange},
		{8, math.MaxInt64, "ffffffffffffff7f", api.OK},
		{8, math.MinInt64, "0000000000000080", api.OK},
	} {
		b, e := PutInt([]byte("x"), c.width, c.n)
		if e != c.e || e == api.OK && hex.EncodeToString(b) != "78"+c.want || e != api.OK && len(b) != 0 {
			t.Errorf("PutInt(x, %d, %d) = %x, %d; want %s, %d", c.width, c.n, b, e, c.want, c.e)
		}
	}
}

// P1.1: a width that is none is told ahead of a number that is none of it (R2).
func TestPutWrongWidths(t *testing.T) {
	for _, width := range wrongWidths {
		for _, n := range numbers() {
			if b, e := Put([]byte("x"), width, n); e != api.ErrArg || len(b) != 0 {
				t.Errorf("Put(x, %d, %d) = %x, %d; want ErrArg alone", width, n, b, e)
			}
			if b, e := PutInt([]byte("x"), width, int64(n)); e != api.ErrArg || len(b) != 0 {
				t.Errorf("PutInt(x, %d, %d) = %x, %d; want ErrArg alone", width, int64(n), b, e)
			}
		}
	}
}

// P1.2
func TestGetAllPlaces(t *testing.T) {
	b := []byte{0x01, 0x80, 0xff, 0x7f, 0x00, 0xfe, 0x80, 0x12, 0xff, 0x00, 0x9a}
	for width := 1; width <= 8; width++ {
		for at := 0; at <= len(b); at++ {
			n, e := Get(b, at, width)
			i, f := GetInt(b, at, width)
			if at+width > len(b) {
				if n != 0 || i != 0 || e != api.ErrShort || f != api.ErrShort {
					t.Errorf("at %d, width %d: %d %d, %d %d; want ErrShort alone", at, width, n, e, i, f)
				}
				continue
			}
			want := new(big.Int)
			for k := width - 1; k >= 0; k-- {
				want.Add(want.Lsh(want, 8), big.NewInt(int64(b[at+k])))
			}
			if e != api.OK || new(big.Int).SetUint64(n).Cmp(want) != 0 {
				t.Errorf("Get at %d, width %d = %d, %d; want %v", at, width, n, e, want)
			}
			if want = signOf(want.Uint64(), 8*width); f != api.OK || big.NewInt(i).Cmp(want) != 0 {
				t.Errorf("GetInt at %d, width %d = %d, %d; want %v", at, width, i, f, want)
			}
		}
	}
}

// P1.2
func TestGetEdges(t *testing.T) {
	for _, c := range []struct {
		b         string
		at, width int
		n         uint64
		i         int64
		e         api.Errno
	}{
		{"ff7f", 0, 2, 32767, 32767, api.OK},
		{"ff7f", 0, 1, 255, -1, api.OK},
		{"ff7f", 1, 1, 127, 127, api.OK},
		{"0080", 0, 2, 32768, -32768, api.OK},
		{"ffffff", 0, 3, 1<<24 - 1, -1, api.OK},
		{"0000000000000080", 0, 8, 1 << 63, math.MinInt64, api.OK},
		{"ffffffffffffff7f", 0, 8, math.MaxInt64, math.MaxInt64, api.OK},
		{"ffffffffffffffff", 0, 8, math.MaxUint64, -1, api.OK},
		{"ff", 0, 2, 0, 0, api.ErrShort},
		{"ff", 1, 1, 0, 0, api.ErrShort},
		{"ff", 1, 8, 0, 0, api.ErrShort},
		{"", 0, 1, 0, 0, api.ErrShort},
		{"ffffffffffffff", 0, 8, 0, 0, api.ErrShort},
		{"ff", 2, 1, 0, 0, api.ErrArg},
		{"ff", 2, 8, 0, 0, api.ErrArg},
		{"", 1, 1, 0, 0, api.ErrArg},
		{"ff7f", -1, 1, 0, 0, api.ErrArg},
		{"ff7f", -2, 2, 0, 0, api.ErrArg},
		{"ff7f", math.MinInt, 1, 0, 0, api.ErrArg},
		{"ff7f", math.MaxInt, 1, 0, 0, api.ErrArg},
		{"ff7f", math.MaxInt, 8, 0, 0, api.ErrArg},
	} {
		b, _ := hex.DecodeString(c.b)
		n, e := Get(b, c.at, c.width)
		i, f := GetInt(b, c.at, c.width)
		if n != c.n || i != c.i || e != c.e || f != c.e {
			t.Errorf("%+v: Get %d %d, GetInt %d %d", c, n, e, i, f)
		}
	}
	if n, e := Get(nil, 0, 1); n != 0 || e != api.ErrShort {
		t.Errorf("Get(nil, 0, 1) = %d, %d; want ErrShort", n, e)
	}
}

// P1.2: the room behind the bytes is none of theirs.
func TestGetNotBehindTheLength(t *testing.T) {
	room := []byte{1, 2, 3, 4, 5, 6, 7, 8}
	if n, e := Get(room[:1], 0, 2); n != 0 || e != api.ErrShort {
		t.Errorf("Get = %d, %d; want ErrShort", n, e)
	}
	if n, e := GetInt(room[:1], 2, 1); n != 0 || e != api.ErrArg {
		t.Errorf("GetInt = %d, %d; want ErrArg", n, e)
	}
}

// P1.2: a width that is none is told ahead of bytes that are too few (R2).
func TestGetWrongWidths(t *testing.T) {
	for _, width := range wrongWidths {
		for _, at := range []int{math.MinInt, -1, 0, 1, 2, 3, math.MaxInt} {
			n, e := Get([]byte{1, 2}, at, width)
			i, f := GetInt([]byte{1, 2}, at, width)
			if n != 0 || i != 0 || e != api.ErrArg || f != api.ErrArg {
				t.Errorf("at %d, width %d: Get %d %d, GetInt %d %d; want ErrArg alone", at, width, n, e, i, f)
			}
		}
	}
}

// P1.3
func TestLowAndSignOfAllBits(t *testing.T) {
	for bits := 1; bits <= 64; bits++ {
		for _, n := range numbers() {
			low, e := Low(n, bits)
			sign, f := Sign(n, bits)
			if e != api.OK || new(big.Int).SetUint64(low).Cmp(lowOf(n, bits)) != 0 {
				t.Errorf("Low(%#x, %d) = %#x, %d", n, bits, low, e)
			}
			if f != api.OK || big.NewInt(sign).Cmp(signOf(n, bits)) != 0 {
				t.Errorf("Sign(%#x, %d) = %d, %d", n, bits, sign, f)
			}
		}
	}
}

// P1.3
func TestLowAndSignEdges(t *testing.T) {
	for _, c := range []struct {
		n    uint64
		bits int
		low  uint64
		sign int64
	}{
		{0x1f5, 8, 0xf5, -11},
		{0x175, 8, 0x75, 0x75},
		{0, 1, 0, 0},
		{1, 1, 1, -1},
		{2, 1, 0, 0},
		{6, 3, 6, -2},
		{math.MaxUint64, 1, 1, -1},
		{math.MaxUint64, 63, math.MaxInt64, -1},
		{math.MaxUint64, 64, math.MaxUint64, -1},
		{1 << 63, 63, 0, 0},
		{1 << 63, 64, 1 << 63, math.MinInt64},
		{1<<63 - 1, 64, math.MaxInt64, math.MaxInt64},
		{0, 64, 0, 0},
	} {
		low, e := Low(c.n, c.bits)
		sign, f := Sign(c.n, c.bits)
		if low != c.low || sign != c.sign || e != api.OK || f != api.OK {
			t.Errorf("%+v: Low %#x %d, Sign %d %d", c, low, e, sign, f)
		}
	}
}

// P1.3
func TestLowAndSignWrongBits(t *testing.T) {
	for _, bits := range wrongBits {
		for _, n := range numbers() {
			low, e := Low(n, bits)
			sign, f := Sign(n, bits)
			if low != 0 || sign != 0 || e != api.ErrArg || f != api.ErrArg {
				t.Errorf("%#x, %d bits: Low %#x %d, Sign %d %d; want ErrArg alone", n, bits, low, e, sign, f)
			}
		}
	}
}

// P1.4
func TestHex(t *testing.T) {
	var all []byte
	for i := range 256 {
		all = append(all, byte(i))
		if s := Hex([]byte{byte(i)}); s != hex.EncodeToString([]byte{byte(i)}) {
			t.Errorf("Hex(%d) = %q", i, s)
		}
	}
	for b, want := range map[string]string{"": "", "\x0a\xff": "0aff", "\x00": "00", string(all): hex.EncodeToString(all)} {
		if s := Hex([]byte(b)); s != want {
			t.Errorf("Hex(%x) = %q; want %q", b, s, want)
		}
	}
	if s := Hex(nil); s != "" {
		t.Errorf("Hex(nil) = %q", s)
	}
}

// P1.4: all texts of two bytes.
func TestUnhexPairs(t *testing.T) {
	const digits = "0123456789abcdef"
	for high := range 256 {
		for low := range 256 {
			s := string([]byte{byte(high), byte(low)})
			h, l := strings.IndexByte(digits, byte(high)), strings.IndexByte(digits, byte(low))
			b, e := Unhex(s)
			if h < 0 || l < 0 {
				if e != api.ErrForm || len(b) != 0 {
					t.Errorf("Unhex(%q) = %x, %d; want ErrForm alone", s, b, e)
				}
			} else if e != api.OK || len(b) != 1 || int(b[0]) != 16*h+l {
				t.Errorf("Unhex(%q) = %x, %d", s, b, e)
			}
		}
	}
}

// P1.4
func TestUnhexTexts(t *testing.T) {
	for _, c := range []struct {
		s, want string
		e       api.Errno
	}{
		{"", "", api.OK},
		{"0aff", "\x0a\xff", api.OK},
		{"0123456789abcdef", "\x01\x23\x45\x67\x89\xab\xcd\xef", api.OK},
		{"0AFF", "", api.ErrForm},
		{"0aFf", "", api.ErrForm},
		{"0", "", api.ErrForm},
		{"0af", "", api.ErrForm},
		{"g", "", api.ErrForm},
		{"0g", "", api.ErrForm},
		{" 0aff", "", api.ErrForm},
		{" 0", "", api.ErrForm},
		{"0a ff", "", api.ErrForm},
		{"0aff\n", "", api.ErrForm},
		{"0a\n\n", "", api.ErrForm},
		{"0x0a", "", api.ErrForm},
		{"-1", "", api.ErrForm},
		{"00é", "", api.ErrForm},
		{"１", "", api.ErrForm},
		{"\xff\xfe", "", api.ErrForm},
		{"\x00\x00", "", api.ErrForm},
		{"000000000000000g", "", api.ErrForm},
		{"00000000000000g0", "", api.ErrForm},
	} {
		b, e := Unhex(c.s)
		if e != c.e || string(b) != c.want {
			t.Errorf("Unhex(%q) = %x, %d; want %x, %d", c.s, b, e, c.want, c.e)
		}
	}
}

// P1.5: whatever stands about it.
func TestPutIsGot(t *testing.T) {
	for _, about := range []string{"", "\x00", "\xff\x80\x01", "123456789"} {
		for width := 1; width <= 8; width++ {
			for _, n := range numbers() {
				if b, e := Put([]byte(about), width, n); e == api.OK {
					if m, e := Get(append(b, about...), len(about), width); m != n || e != api.OK {
						t.Errorf("Get of Put(%x, %d, %d) = %d, %d", about, width, n, m, e)
					}
				}
				if b, e := PutInt([]byte(about), width, int64(n)); e == api.OK {
					if m, e := GetInt(append(b, about...), len(about), width); m != int64(n) || e != api.OK {
						t.Errorf("GetInt of PutInt(%x, %d, %d) = %d, %d", about, width, int64(n), m, e)
					}
				}
			}
		}
	}
}

// P1.5
func TestSignOfLowIsSign(t *testing.T) {
	for bits := 1; bits <= 64; bits++ {
		for _, n := range numbers() {
			low, _ := Low(n, bits)
			a, e := Sign(low, bits)
			b, f := Sign(n, bits)
			if a != b || e != api.OK || f != api.OK {
				t.Errorf("Sign of Low(%#x, %d) = %d, %d; Sign = %d, %d", n, bits, a, e, b, f)
			}
		}
	}
}

// P1.5
func TestSignedHasTheBytesOfLow(t *testing.T) {
	put := 0
	for width := 1; width <= 8; width++ {
		for _, n := range numbers() {
			a, e := PutInt(nil, width, int64(n))
			if e != api.OK {
				continue
			}
			put++
			low, _ := Low(n, 8*width)
			if b, e := Put(nil, width, low); e != api.OK || !bytes.Equal(a, b) {
				t.Errorf("width %d, %d: PutInt %x, Put of Low %x, %d", width, int64(n), a, b, e)
			}
		}
	}
	if put == 0 {
		t.Error("nothing was put")
	}
}

// P1.5
func TestHexThereAndBack(t *testing.T) {
	for _, s := range []string{"", "00", "0aff", "0123456789abcdef", strings.Repeat("7f80", 500)} {
		b, e := Unhex(s)
		if e != api.OK || Hex(b) != s {
			t.Errorf("Hex of Unhex(%q) = %q, %d", s, Hex(b), e)
		}
	}
	var b []byte
	for i := range 1024 {
		b = append(b, byte(i*7))
		if back, e := Unhex(Hex(b)); e != api.OK || !bytes.Equal(back, b) {
			t.Errorf("Unhex of Hex(%x) = %x, %d", b, back, e)
		}
	}
}

// puts are both ways of laying a number down, for what holds of both.
func puts(b []byte, width int) map[string][]byte {
	u, _ := Put(b, width, 5)
	i, _ := PutInt(b, width, -5)
	return map[string][]byte{"Put": u, "PutInt": i}
}

// R4: neither the bytes that are handed in are changed, nor the room behind them.
func TestPutLeavesItsArgument(t *testing.T) {
	for length := 0; length <= 4; length++ {
		for width := 0; width <= 9; width++ {
			room := []byte("abcdefghijklmnopqrstuvwxyz")
			puts(room[:length], width)
			if string(room) != "abcdefghijklmnopqrstuvwxyz" {
				t.Errorf("length %d, width %d: the room is %q", length, width, room)
			}
		}
	}
}

// R4: what is answered shares nothing with what was handed in, spare room too.
func TestPutAnswersNewMemory(t *testing.T) {
	for what := range puts(nil, 1) {
		room := []byte("abcdefghijklmnopqrstuvwxyz")
		out := puts(room[:3], 2)[what]
		want := bytes.Clone(out)
		for i := range room {
			room[i] = '.'
		}
		if !bytes.Equal(out, want) {
			t.Errorf("%s: the answer became %x", what, out)
		}
		spare := out[:cap(out)]
		for i := range spare {
			spare[i] = '!'
		}
		if strings.Trim(string(room), ".") != "" {
			t.Errorf("%s: the argument became %q", what, room)
		}
	}
}

// R4: two answers of the same call share nothing either.
func TestAnswersShareNothing(t *testing.T) {
	a, _ := Put([]byte("ab"), 1, 1)
	b, _ := Put([]byte("ab"), 1, 2)
	c, _ := Unhex("6162")
	d, _ := Unhex("6162")
	for _, l := range [][]byte{a, c} {
		spare := l[:cap(l)]
		for i := range spare {
			spare[i] = '!'
		}
	}
	if string(b) != "ab\x02" || string(d) != "ab" {
		t.Errorf("%q %q", b, d)
	}
}

// R4
func TestReadingLeavesItsArgument(t *testing.T) {
	room := []byte("abcdefghij")
	b := room[:8]
	text := Hex(b)
	for width := 0; width <= 9; width++ {
		for at := -1; at <= 10; at++ {
			Get(b, at, width)
			GetInt(b, at, width)
		}
	}
	if string(room) != "abcdefghij" {
		t.Errorf("the room is %q", room)
	}
	clear(room)
	if text != "6162636465666768" {
		t.Errorf("the text became %q", text)
	}
}

// R5: the same arguments have the same answer, whatever was called between.
func TestOneAnswer(t *testing.T) {
	first, _ := PutInt([]byte("x"), 4, -77)
	for _, width := range wrongWidths {
		Put([]byte("y"), width, 1)
		Unhex("0g")
	}
	if again, e := PutInt([]byte("x"), 4, -77); e != api.OK || !bytes.Equal(first, again) {
		t.Errorf("%x, then %x, %d", first, again, e)
	}
}

// The chapter's examples.
func TestExamples(t *testing.T) {
	if b, e := Put(nil, 2, 258); string(b) != "\x02\x01" || e != api.OK {
		t.Error(b, e)
	}
	if b, e := PutInt(nil, 2, -2); string(b) != "\xfe\xff" || e != api.OK {
		t.Error(b, e)
	}
	if b, e := PutInt(nil, 1, 128); len(b) != 0 || e != api.ErrRange {
		t.Error(b, e)
	}
	if n, e := GetInt([]byte{0xff, 0x7f}, 0, 2); n != 32767 || e != api.OK {
		t.Error(n, e)
	}
	if n, e := Get([]byte{0xff}, 0, 2); n != 0 || e != api.ErrShort {
		t.Error(n, e)
	}
	if n, e := Get([]byte{0xff}, 2, 1); n != 0 || e != api.ErrArg {
		t.Error(n, e)
	}
	if n, e := Low(0x1f5, 8); n != 0xf5 || e != api.OK {
		t.Error(n, e)
	}
	if n, e := Sign(0x1f5, 8); n != -11 || e != api.OK {
		t.Error(n, e)
	}
	if n, e := Sign(1, 1); n != -1 || e != api.OK {
		t.Error(n, e)
	}
	if s := Hex([]byte{0x0a, 0xff}); s != "0aff" {
		t.Error(s)
	}
	if b, e := Unhex("0AFF"); len(b) != 0 || e != api.ErrForm {
		t.Error(b, e)
	}
}
