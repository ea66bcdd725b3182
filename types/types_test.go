package types

import (
	"bytes"
	"encoding/hex"
	"math"
	"math/big"
	"regexp"
	"slices"
	"strings"
	"testing"
	"unsafe"

	"wheelhouse/api"
)

// row is a type as the chapter's table has it.
type row struct {
	t      int
	name   string
	size   int
	bits   int
	signed bool
	low    int64
	high   int64
}

// rows are all of them, their numbers written out, so that they hang on nothing of the package.
func rows() []row {
	return []row{
		{0x01, "bool", 1, 1, false, 0, 1},
		{0x02, "i8", 1, 8, true, -128, 127},
		{0x03, "i16", 2, 16, true, -32768, 32767},
		{0x04, "i32", 4, 32, true, -2147483648, 2147483647},
		{0x05, "u8", 1, 8, false, 0, 255},
		{0x06, "u16", 2, 16, false, 0, 65535},
		{0x07, "u32", 4, 32, false, 0, 4294967295},
		{0x09, "text", 0, 0, false, 0, 0},
		{0x0a, "bytes", 0, 0, false, 0, 0},
		{0x0f, "domain", 0, 0, false, 0, 0},
		{0x15, "i64", 8, 64, true, -9223372036854775808, 9223372036854775807},
	}
}

// numberRows are those of numbers' types.
func numberRows() []row {
	return slices.DeleteFunc(rows(), func(r row) bool { return r.bits == 0 })
}

// otherRows are those of types without numbers.
func otherRows() []row {
	return slices.DeleteFunc(rows(), func(r row) bool { return r.bits != 0 })
}

// find is a type's row; false, if it is not known.
func find(t int) (row, bool) {
	for _, r := range rows() {
		if r.t == t {
			return r, true
		}
	}
	return row{}, false
}

// strangers are types that are not known: all small ones, and those that a narrower number, or another sign, takes for a known one.
func strangers() []int {
	l := []int{math.MinInt, math.MinInt + 1, math.MaxInt, math.MaxInt - 1}
	for t := -600; t <= 600; t++ {
		l = append(l, t)
	}
	for _, r := range rows() {
		for _, width := range []int{8, 16, 31, 32, 63} {
			l = append(l, r.t+1<<width, r.t-1<<width)
		}
	}
	return slices.DeleteFunc(l, func(t int) bool { _, is := find(t); return is })
}

// draw hands out numbers below n, without a pattern, and the same ones in each run.
func draw() func(n int) int {
	state := uint64(0x9e3779b97f4a7c15)
	return func(n int) int {
		state = state*6364136223846793005 + 1442695040888963407
		return int(state>>33) % n
	}
}

// numbers are the ones about each power of two and each limit, and some without a pattern.
func numbers() []int64 {
	l := []int64{0x1f5, 258, 300, 0x0123456789abcdef, -0x0123456789abcdef, 99999, -99999}
	for i := range 64 {
		for p := int64(-3); p <= 3; p++ {
			l = append(l, 1<<i+p, -1<<i+p)
		}
	}
	return l
}

// bytesOf are the bytes of a number of a type, by a way that shares nothing with the package.
func (r row) bytesOf(n int64) []byte {
	power := new(big.Int).Lsh(big.NewInt(1), uint(8*r.size))
	b := new(big.Int).Mod(big.NewInt(n), power).FillBytes(make([]byte, r.size))
	slices.Reverse(b)
	return b
}

// numberOf is back, and what is wrong of the bytes.
func (r row) numberOf(b []byte) (int64, api.Errno) {
	switch {
	case r.bits == 0:
		return 0, api.ErrType
	case len(b) < r.size:
		return 0, api.ErrShort
	case len(b) > r.size:
		return 0, api.ErrBig
	}
	high := slices.Clone(b)
	slices.Reverse(high)
	n := new(big.Int).SetBytes(high)
	if r.signed && b[r.size-1] >= 128 {
		n.Sub(n, new(big.Int).Lsh(big.NewInt(1), uint(8*r.size)))
	}
	if n.Cmp(big.NewInt(r.high)) > 0 {
		return 0, api.ErrRange
	}
	return n.Int64(), api.OK
}

// check is what is wrong of bytes.
func (r row) check(most int, b []byte) api.Errno {
	if r.bits > 0 {
		_, e := r.numberOf(b)
		return e
	}
	if len(b) > most || len(b) > 256 {
		return api.ErrBig
	}
	if r.name == "text" && slices.ContainsFunc(b, func(c byte) bool { return c < ' ' || c > '~' }) {
		return api.ErrForm
	}
	return api.OK
}

// The forms of what is written. (?s): a text's bytes are all of them here; what is wrong of them is told behind the form.
var (
	numberForm = regexp.MustCompile(`\A(0|-?[1-9][0-9]*)\z`)
	textForm   = regexp.MustCompile(`(?s)\A"([^"\\]|\\["\\])*"\z`)
	hexForm    = regexp.MustCompile(`\A#([0-9a-f][0-9a-f])*\z`)
)

// parse is what a text comes to.
func (r row) parse(s string) ([]byte, api.Errno) {
	var b []byte
	switch {
	case r.bits > 0:
		if !numberForm.MatchString(s) {
			return nil, api.ErrForm
		}
		n, _ := new(big.Int).SetString(s, 10)
		if n.Cmp(big.NewInt(r.low)) < 0 || n.Cmp(big.NewInt(r.high)) > 0 {
			return nil, api.ErrRange
		}
		return r.bytesOf(n.Int64()), api.OK
	case r.name == "text":
		if !textForm.MatchString(s) {
			return nil, api.ErrForm
		}
		b = []byte(strings.NewReplacer(`\"`, `"`, `\\`, `\`).Replace(s[1 : len(s)-1]))
	default:
		if !hexForm.MatchString(s) {
			return nil, api.ErrForm
		}
		b, _ = hex.DecodeString(s[1:])
	}
	if e := r.check(256, b); e != api.OK {
		return nil, e
	}
	return b, api.OK
}

// show is bytes as text.
func (r row) show(b []byte) (string, api.Errno) {
	if e := r.check(256, b); e != api.OK {
		return "", e
	}
	switch {
	case r.bits > 0:
		n, _ := r.numberOf(b)
		return big.NewInt(n).String(), api.OK
	case r.name == "text":
		return `"` + strings.NewReplacer(`"`, `\"`, `\`, `\\`).Replace(string(b)) + `"`, api.OK
	}
	return "#" + hex.EncodeToString(b), api.OK
}

// checkBytes holds all that bytes come to against the chapter, and the laws of what is right.
func checkBytes(t *testing.T, r row, b []byte) {
	t.Helper()
	wantN, wantE := r.numberOf(b)
	if n, e := Decode(r.t, b); n != wantN || e != wantE {
		t.Errorf("Decode(%s, %x) = %d, %d; want %d, %d", r.name, b, n, e, wantN, wantE)
	}
	if wantE == api.OK {
		if back, e := Encode(r.t, wantN); e != api.OK || !bytes.Equal(back, b) {
			t.Errorf("Encode(%s, %d) = %x, %d; want %x", r.name, wantN, back, e, b)
		}
	}
	want := r.check(256, b)
	if e := Check(r.t, 256, b); e != want {
		t.Errorf("Check(%s, 256, %x) = %d; want %d", r.name, b, e, want)
	}
	text, _ := r.show(b)
	s, e := Show(r.t, b)
	if s != text || e != want {
		t.Errorf("Show(%s, %x) = %q, %d; want %q, %d", r.name, b, s, e, text, want)
	}
	if e == api.OK {
		if back, e := Parse(r.t, s); e != api.OK || !bytes.Equal(back, b) {
			t.Errorf("Parse(%s, %q) = %x, %d; want %x", r.name, s, back, e, b)
		}
	}
}

// checkText holds what a text comes to against the chapter, and the law of what is right.
func checkText(t *testing.T, r row, s string) {
	t.Helper()
	want, wantE := r.parse(s)
	b, e := Parse(r.t, s)
	if e != wantE || !bytes.Equal(b, want) {
		t.Errorf("Parse(%s, %.300q) = %x, %d; want %x, %d", r.name, s, b, e, want, wantE)
	}
	if e == api.OK {
		if back, e := Show(r.t, b); e != api.OK || back != s {
			t.Errorf("Show(%s, %x) = %q, %d; want %q", r.name, b, back, e, s)
		}
	}
}

// The chapter's types are those of api.
func TestTypesAreThoseOfApi(t *testing.T) {
	given := []int{api.TBool, api.TInt8, api.TInt16, api.TInt32, api.TUns8, api.TUns16, api.TUns32, api.TText, api.TBytes, api.TDomain, api.TInt64}
	for i, r := range rows() {
		if r.t != given[i] {
			t.Errorf("%s is %#x; want %#x", r.name, given[i], r.t)
		}
	}
	if api.MaxValue != 256 {
		t.Errorf("MaxValue is %d", api.MaxValue)
	}
}

// P5.1
func TestKnownTypes(t *testing.T) {
	for _, r := range rows() {
		low, high, ok := Limits(r.t)
		if !Known(r.t) || Size(r.t) != r.size || Bits(r.t) != r.bits || Signed(r.t) != r.signed {
			t.Errorf("%s: Known %t, Size %d, Bits %d, Signed %t", r.name, Known(r.t), Size(r.t), Bits(r.t), Signed(r.t))
		}
		if low != r.low || high != r.high || ok != (r.bits > 0) {
			t.Errorf("%s: Limits %d, %d, %t", r.name, low, high, ok)
		}
		if k, is := ByName(r.name); Name(r.t) != r.name || k != r.t || !is {
			t.Errorf("%s: Name %q, ByName %d, %t", r.name, Name(r.t), k, is)
		}
	}
}

// P5.1; P5.2 to P5.4: what is not a type is told ahead of all else (R2), and alone (R3).
func TestTypesThatAreNotKnown(t *testing.T) {
	for _, k := range strangers() {
		low, high, ok := Limits(k)
		if Known(k) || Size(k) != 0 || Bits(k) != 0 || Signed(k) || low != 0 || high != 0 || ok || Name(k) != "" {
			t.Errorf("%d: Known %t, Size %d, Bits %d, Signed %t, Limits %d %d %t, Name %q", k, Known(k), Size(k), Bits(k), Signed(k), low, high, ok, Name(k))
		}
		for _, n := range []int64{0, 1, -1, math.MaxInt64, math.MinInt64} {
			if b, e := Encode(k, n); len(b) != 0 || e != api.ErrType {
				t.Errorf("Encode(%d, %d) = %x, %d; want ErrType alone", k, n, b, e)
			}
		}
		for _, b := range [][]byte{nil, {}, {1}, {2}, {0, 0}, make([]byte, 257)} {
			if n, e := Decode(k, b); n != 0 || e != api.ErrType {
				t.Errorf("Decode(%d, %x) = %d, %d; want ErrType alone", k, b, n, e)
			}
			if s, e := Show(k, b); s != "" || e != api.ErrType {
				t.Errorf("Show(%d, %x) = %q, %d; want ErrType alone", k, b, s, e)
			}
			for _, most := range []int{-1, 0, 9, 256, math.MaxInt} {
				if e := Check(k, most, b); e != api.ErrType {
					t.Errorf("Check(%d, %d, %x) = %d; want ErrType", k, most, b, e)
				}
			}
		}
		for _, s := range []string{"", "0", "07", "300", `"a"`, "#0a", "#", "x"} {
			if b, e := Parse(k, s); len(b) != 0 || e != api.ErrType {
				t.Errorf("Parse(%d, %q) = %x, %d; want ErrType alone", k, s, b, e)
			}
		}
	}
}

// P5.1: what is near a name is none; so is each text of up to three bytes beside the names.
func TestNamesThatAreNone(t *testing.T) {
	is := func(s string) bool {
		return slices.ContainsFunc(rows(), func(r row) bool { return r.name == s })
	}
	l := []string{"", "u64", "i1", "u1", "int8", "uns8", "string", "domains", "bool\x00", "\x00", "b\u043eol", "1", "0x01"}
	for _, r := range rows() {
		l = append(l, " "+r.name, r.name+" ", strings.ToUpper(r.name), r.name[1:], r.name[:len(r.name)-1], r.name+r.name, r.name+"\x00", r.name+"8")
	}
	signs := "abiu0123468 "
	for _, a := range signs {
		for _, b := range signs {
			for _, c := range signs {
				l = append(l, string(a), string([]rune{a, b}), string([]rune{a, b, c}))
			}
		}
	}
	for _, s := range l {
		if k, ok := ByName(s); !is(s) && (k != 0 || ok) {
			t.Errorf("ByName(%q) = %d, %t; want none", s, k, ok)
		}
	}
}

// P5.2, P5.5
func TestEncodeOfAllTypes(t *testing.T) {
	for _, r := range numberRows() {
		for _, n := range append(numbers(), r.low, r.low+1, r.low-1, r.high, r.high-1, r.high+1) {
			b, e := Encode(r.t, n)
			if n < r.low || n > r.high {
				if len(b) != 0 || e != api.ErrRange {
					t.Errorf("Encode(%s, %d) = %x, %d; want ErrRange alone", r.name, n, b, e)
				}
				continue
			}
			if !bytes.Equal(b, r.bytesOf(n)) || e != api.OK || len(b) != Size(r.t) {
				t.Errorf("Encode(%s, %d) = %x, %d; want %x", r.name, n, b, e, r.bytesOf(n))
			}
			if back, e := Decode(r.t, b); back != n || e != api.OK {
				t.Errorf("Decode(%s, %x) = %d, %d; want %d", r.name, b, back, e, n)
			}
		}
	}
	for _, r := range otherRows() {
		for _, n := range numbers() {
			if b, e := Encode(r.t, n); len(b) != 0 || e != api.ErrType {
				t.Errorf("Encode(%s, %d) = %x, %d; want ErrType alone", r.name, n, b, e)
			}
		}
	}
}

// P5.2, P5.5
func TestEncodeEdges(t *testing.T) {
	for _, c := range []struct {
		t    int
		n    int64
		want string
		e    api.Errno
	}{
		{api.TBool, 0, "00", api.OK},
		{api.TBool, 1, "01", api.OK},
		{api.TBool, 2, "", api.ErrRange},
		{api.TBool, 255, "", api.ErrRange},
		{api.TBool, -1, "", api.ErrRange},
		{api.TInt8, -128, "80", api.OK},
		{api.TInt8, -129, "", api.ErrRange},
		{api.TInt8, 127, "7f", api.OK},
		{api.TInt8, 128, "", api.ErrRange},
		{api.TInt16, -2, "feff", api.OK},
		{api.TInt16, 258, "0201", api.OK},
		{api.TInt32, math.MinInt32, "00000080", api.OK},
		{api.TInt32, math.MinInt32 - 1, "", api.ErrRange},
		{api.TUns8, 255, "ff", api.OK},
		{api.TUns8, 256, "", api.ErrRange},
		{api.TUns8, -1, "", api.ErrRange},
		{api.TUns16, 65535, "ffff", api.OK},
		{api.TUns16, 65536, "", api.ErrRange},
		{api.TUns32, 0x01020304, "04030201", api.OK},
		{api.TUns32, math.MaxUint32, "ffffffff", api.OK},
		{api.TUns32, math.MaxUint32 + 1, "", api.ErrRange},
		{api.TUns32, -1, "", api.ErrRange},
		{api.TInt64, -1, "ffffffffffffffff", api.OK},
		{api.TInt64, math.MaxInt64, "ffffffffffffff7f", api.OK},
		{api.TInt64, math.MinInt64, "0000000000000080", api.OK},
		{api.TText, 0, "", api.ErrType},
		{api.TBytes, 1, "", api.ErrType},
		{api.TDomain, -1, "", api.ErrType},
	} {
		b, e := Encode(c.t, c.n)
		if hex.EncodeToString(b) != c.want || e != c.e {
			t.Errorf("Encode(%#x, %d) = %x, %d; want %s, %d", c.t, c.n, b, e, c.want, c.e)
		}
	}
}

// P5.2 to P5.5: each byte, and each two of them, of all types.
func TestShortBytesOfAllTypes(t *testing.T) {
	for _, r := range rows() {
		checkBytes(t, r, nil)
		checkBytes(t, r, []byte{})
		for i := range 256 {
			checkBytes(t, r, []byte{byte(i)})
		}
	}
	for _, k := range []int{api.TInt16, api.TUns16, api.TText, api.TBytes, api.TBool} {
		r, _ := find(k)
		for i := range 1 << 16 {
			checkBytes(t, r, []byte{byte(i), byte(i >> 8)})
		}
	}
}

// P5.2 to P5.5: bytes without a pattern, of lengths about each type's.
func TestBytesOfAllLengths(t *testing.T) {
	next := draw()
	for _, r := range rows() {
		for length := range 20 {
			for range 40 {
				b := make([]byte, length)
				for i := range b {
					b[i] = byte(next(256))
				}
				checkBytes(t, r, b)
				for i := range b {
					b[i] = byte(32 + next(95))
				}
				checkBytes(t, r, b)
			}
		}
	}
}

// P5.2: the length is told ahead of a bool's byte, and the room behind it is none of its bytes.
func TestDecodeEdges(t *testing.T) {
	for _, c := range []struct {
		t    int
		b    string
		want int64
		e    api.Errno
	}{
		{api.TBool, "00", 0, api.OK},
		{api.TBool, "01", 1, api.OK},
		{api.TBool, "02", 0, api.ErrRange},
		{api.TBool, "81", 0, api.ErrRange},
		{api.TBool, "ff", 0, api.ErrRange},
		{api.TBool, "", 0, api.ErrShort},
		{api.TBool, "0202", 0, api.ErrBig},
		{api.TInt8, "80", -128, api.OK},
		{api.TInt16, "ff7f", 32767, api.OK},
		{api.TInt16, "ff", 0, api.ErrShort},
		{api.TInt32, "ffffffff", -1, api.OK},
		{api.TInt32, "ffffffffff", 0, api.ErrBig},
		{api.TUns8, "ff", 255, api.OK},
		{api.TUns32, "0102", 0, api.ErrShort},
		{api.TUns32, "ffffffff", math.MaxUint32, api.OK},
		{api.TUns32, "00000080", 1 << 31, api.OK},
		{api.TInt64, "0000000000000080", math.MinInt64, api.OK},
		{api.TInt64, "00000000000080", 0, api.ErrShort},
		{api.TInt64, "000000000000000000", 0, api.ErrBig},
		{api.TText, "", 0, api.ErrType},
		{api.TText, "01", 0, api.ErrType},
		{api.TBytes, "01", 0, api.ErrType},
		{api.TDomain, strings.Repeat("01", 300), 0, api.ErrType},
	} {
		b, _ := hex.DecodeString(c.b)
		if n, e := Decode(c.t, b); n != c.want || e != c.e {
			t.Errorf("Decode(%#x, %.40s) = %d, %d; want %d, %d", c.t, c.b, n, e, c.want, c.e)
		}
	}
	room := []byte{1, 1, 1, 1, 1, 1, 1, 1}
	if n, e := Decode(api.TUns32, room[:3]); n != 0 || e != api.ErrShort {
		t.Errorf("Decode = %d, %d; want ErrShort", n, e)
	}
}

// P5.3: what is most counts of types without numbers alone, up to MaxValue.
func TestCheckOfAllMosts(t *testing.T) {
	mosts := []int{math.MinInt, -257, -1, 0, 1, 2, 8, 9, 255, 256, 257, 1 << 32, math.MaxInt}
	for _, r := range rows() {
		for _, most := range mosts {
			for _, length := range []int{0, 1, 2, 3, 4, 5, 8, 9, 10, 255, 256, 257, 258, 1000} {
				for _, c := range []byte{0, 1, 2, 31, 32, 126, 127, 255} {
					b := bytes.Repeat([]byte{c}, length)
					if e, want := Check(r.t, most, b), r.check(most, b); e != want {
						t.Errorf("Check(%s, %d, %d times %d) = %d; want %d", r.name, most, length, c, e, want)
					}
				}
			}
		}
	}
}

// P5.3
func TestCheckEdges(t *testing.T) {
	for _, c := range []struct {
		t, most int
		s       string
		e       api.Errno
	}{
		{api.TUns8, -1, "\x07", api.OK},
		{api.TUns8, 0, "\x07", api.OK},
		{api.TInt64, 1, "12345678", api.OK},
		{api.TUns16, 9, "a", api.ErrShort},
		{api.TUns16, 9, "abc", api.ErrBig},
		{api.TBool, 9, "\x02", api.ErrRange},
		{api.TText, 2, "ab", api.OK},
		{api.TText, 2, "abc", api.ErrBig},
		{api.TText, 0, "", api.OK},
		{api.TText, -1, "", api.ErrBig},
		{api.TText, 2, "\x1f\x1f\x1f", api.ErrBig},
		{api.TText, 3, "\x1f\x1f\x1f", api.ErrForm},
		{api.TText, 9, " ~", api.OK},
		{api.TText, 9, "ab\x7f", api.ErrForm},
		{api.TText, 9, "\nab", api.ErrForm},
		{api.TText, 9, "\u00e9", api.ErrForm},
		{api.TBytes, 9, "\x00\x1f\x7f\xff", api.OK},
		{api.TDomain, 4, "\x00\x1f\x7f\xff", api.OK},
		{api.TDomain, 3, "\x00\x1f\x7f\xff", api.ErrBig},
		{api.TBytes, -1, "", api.ErrBig},
	} {
		if e := Check(c.t, c.most, []byte(c.s)); e != c.e {
			t.Errorf("Check(%#x, %d, %q) = %d; want %d", c.t, c.most, c.s, e, c.e)
		}
	}
}

// P5.3: a byte that is wrong is found wherever it stands.
func TestCheckOfEachPlaceOfAText(t *testing.T) {
	for at := range 256 {
		for _, wrong := range []byte{0, 9, 31, 127, 128, 255} {
			b := bytes.Repeat([]byte{'a'}, 256)
			b[at] = wrong
			if e := Check(api.TText, 256, b); e != api.ErrForm {
				t.Errorf("%d at %d: %d; want ErrForm", wrong, at, e)
			}
		}
	}
}

// P5.4, P5.5
func TestShowAndParseTexts(t *testing.T) {
	for _, c := range []struct {
		t    int
		b, s string
	}{
		{api.TBool, "\x01", "1"},
		{api.TInt8, "\x80", "-128"},
		{api.TInt8, "\x00", "0"},
		{api.TInt16, "\x18\xfc", "-1000"},
		{api.TUns16, "\xe8\x03", "1000"},
		{api.TUns32, "\xff\xff\xff\xff", "4294967295"},
		{api.TInt64, "\x00\x00\x00\x00\x00\x00\x00\x80", "-9223372036854775808"},
		{api.TInt64, "\xff\xff\xff\xff\xff\xff\xff\x7f", "9223372036854775807"},
		{api.TText, "", `""`},
		{api.TText, "a\"b", `"a\"b"`},
		{api.TText, `\`, `"\\"`},
		{api.TText, `"`, `"\""`},
		{api.TText, `\"`, `"\\\""`},
		{api.TText, `\\`, `"\\\\"`},
		{api.TText, `a\`, `"a\\"`},
		{api.TText, "#0a", `"#0a"`},
		{api.TText, " 07 ~", `" 07 ~"`},
		{api.TBytes, "", "#"},
		{api.TBytes, "\x0a\xff", "#0aff"},
		{api.TDomain, "", "#"},
		{api.TDomain, "\"\x00", "#2200"},
	} {
		if s, e := Show(c.t, []byte(c.b)); s != c.s || e != api.OK {
			t.Errorf("Show(%#x, %q) = %q, %d; want %q", c.t, c.b, s, e, c.s)
		}
		if b, e := Parse(c.t, c.s); string(b) != c.b || e != api.OK {
			t.Errorf("Parse(%#x, %q) = %q, %d; want %q", c.t, c.s, b, e, c.b)
		}
	}
}

// P5.4, P5.5
func TestParseOfNumbers(t *testing.T) {
	l := []string{
		"", "0", "00", "07", "-0", "-00", "-07", "-", "--1", "+", "+1", "+0", "1-", "1 ", " 1", "1\n", "\n1", "1.0", "1e1", "0x1", "1_0", "_1", "a", "1a", "a1",
		"\u0661", "\uff11", "1\x00", "\x00", "#01", `"1"`, "true", "2", "255", "256", "300", "-1", "-128", "-129",
		"9223372036854775807", "9223372036854775808", "-9223372036854775808", "-9223372036854775809", "18446744073709551615", "18446744073709551616", "18446744073709551617",
		"99999999999999999999", "-99999999999999999999", "99999999999999999999x", "-99999999999999999999-", "099999999999999999999",
		"1" + strings.Repeat("0", 5000), "-1" + strings.Repeat("0", 5000), "1" + strings.Repeat("0", 5000) + "a", "0" + strings.Repeat("0", 5000), strings.Repeat("-", 5000),
	}
	for _, n := range numbers() {
		s := big.NewInt(n).String()
		l = append(l, s, "0"+s, s+"0", "-"+s, "+"+s)
	}
	for _, r := range rows() {
		for _, s := range l {
			checkText(t, r, s)
		}
	}
}

// P5.4: a form that is wrong is told ahead of a number outside.
func TestParseErrorsOfNumbers(t *testing.T) {
	for s, want := range map[string]api.Errno{
		"": api.ErrForm, "-": api.ErrForm, "07": api.ErrForm, "0300": api.ErrForm, "-0": api.ErrForm, "+1": api.ErrForm, "1a": api.ErrForm, "300a": api.ErrForm,
		"256": api.ErrRange, "300": api.ErrRange, "-1": api.ErrRange, "18446744073709551616": api.ErrRange, "18446744073709551617": api.ErrRange,
	} {
		if b, e := Parse(api.TUns8, s); len(b) != 0 || e != want {
			t.Errorf("Parse(u8, %q) = %x, %d; want %d alone", s, b, e, want)
		}
	}
	if b, e := Parse(api.TBool, "2"); len(b) != 0 || e != api.ErrRange {
		t.Errorf("Parse(bool, 2) = %x, %d; want ErrRange alone", b, e)
	}
}

// P5.4, P5.5: all texts of up to five signs that the forms turn on, of all types.
func TestParseOfAllShortTexts(t *testing.T) {
	const signs = "\"\\#-019af\x1f"
	var grow func(s string)
	grow = func(s string) {
		for _, r := range rows() {
			checkText(t, r, s)
		}
		if len(s) == 5 {
			return
		}
		for i := range len(signs) {
			grow(s + signs[i:i+1])
		}
	}
	grow("")
}

// P5.4, P5.5: one byte, of all there are, within the forms.
func TestParseOfEachByte(t *testing.T) {
	for i := range 256 {
		c := string([]byte{byte(i)})
		for _, s := range []string{c, c + c, `"` + c + `"`, `"` + c, c + `"`, `"\` + c + `"`, `"a` + c + `b"`, "#" + c, "#0" + c, "#" + c + "0", "#0a" + c, "1" + c, "-" + c, c + "1"} {
			for _, r := range rows() {
				checkText(t, r, s)
			}
		}
	}
}

// P5.4
func TestParseErrorsOfOthers(t *testing.T) {
	for _, s := range []string{"", "a", `"`, `"a`, `a"`, `"\"`, `"\x"`, `"\n"`, `"a"b"`, `"""`, `"a" `, ` "a"`, "'a'", "`a`", "\"\x01\"", "\"\x7f\"", "\"\u00e9\"", "#0a", `"\\\"`, "\"a\"\n"} {
		if b, e := Parse(api.TText, s); len(b) != 0 || e != api.ErrForm {
			t.Errorf("Parse(text, %q) = %x, %d; want ErrForm alone", s, b, e)
		}
	}
	for _, s := range []string{"", "0a", "#0", "#0A", "#0g", "##", "# 0a", "#0a ", " #0a", "#0x0a", `"a"`, "0", "#\n\n", "#0a#"} {
		for _, k := range []int{api.TBytes, api.TDomain} {
			if b, e := Parse(k, s); len(b) != 0 || e != api.ErrForm {
				t.Errorf("Parse(%#x, %q) = %x, %d; want ErrForm alone", k, s, b, e)
			}
		}
	}
}

// P5.3, P5.4: about MaxValue; the form is told ahead of the length, the length ahead of bytes that are no text's.
func TestLongValues(t *testing.T) {
	for _, n := range []int{255, 256, 257, 258, 4096} {
		for _, within := range []string{"a", `\"`, `\\`, "\x01", `\x`, `"`} {
			many := strings.Repeat(within, n)
			for _, s := range []string{`"` + many + `"`, `"` + many, `"` + many + `\"`, `"` + many + "\x01\"", `"` + many + `\`} {
				checkText(t, rows()[7], s)
			}
		}
		for _, within := range []string{"00", "ff", "0", "0A"} {
			many := "#" + strings.Repeat(within, n)
			for _, r := range otherRows() {
				checkText(t, r, many)
				checkText(t, r, many+"0")
				checkText(t, r, many+"x")
			}
		}
		for _, c := range []byte{'a', '"', '\\', 0, 255} {
			for _, r := range rows() {
				checkBytes(t, r, bytes.Repeat([]byte{c}, n))
			}
		}
	}
	for s, want := range map[string]api.Errno{
		`"` + strings.Repeat("a", 257) + `"`:        api.ErrBig,
		`"` + strings.Repeat("\x01", 257) + `"`:     api.ErrBig,
		`"` + strings.Repeat("\x01", 256) + `"`:     api.ErrForm,
		`"` + strings.Repeat("a", 257):              api.ErrForm,
		`"` + strings.Repeat("a", 257) + `"a"`:      api.ErrForm,
		`"` + strings.Repeat(`\"`, 257) + `"`:       api.ErrBig,
		`"` + strings.Repeat("\\\"", 300) + "\\x\"": api.ErrForm,
	} {
		if b, e := Parse(api.TText, s); len(b) != 0 || e != want {
			t.Errorf("Parse(text, %.20q, %d long) = %x, %d; want %d alone", s, len(s), b, e, want)
		}
	}
}

// P5.4, P5.5: texts without a pattern.
func TestParseOfTextsWithoutAPattern(t *testing.T) {
	const signs = "\"\"\\\\##--0123456789abcdefgABF ~\x1f\x7f\xff\n"
	next := draw()
	for range 20000 {
		s := make([]byte, next(24))
		for i := range s {
			s[i] = signs[next(len(signs))]
		}
		for _, r := range rows() {
			checkText(t, r, string(s))
			checkText(t, r, `"`+string(s)+`"`)
			checkText(t, r, "#"+string(s))
		}
	}
}

// R4: bytes that are handed in stay as they are, with the room behind them.
func TestBytesAreLeft(t *testing.T) {
	for _, r := range rows() {
		room := bytes.Repeat([]byte{'"', 1, '\\', 'a'}, 100)
		was := bytes.Clone(room)
		for length := range 300 {
			Decode(r.t, room[:length])
			Check(r.t, length, room[:length])
			Show(r.t, room[:length])
		}
		if !bytes.Equal(room, was) {
			t.Errorf("%s: the bytes were changed", r.name)
		}
	}
}

// R4: what is answered is new memory, the room behind it, too.
func TestAnswersAreNewMemory(t *testing.T) {
	made := func(k int) (l [][]byte) {
		for _, s := range []string{"0", "1", `""`, `"ab\\"`, "#", "#0aff"} {
			b, _ := Parse(k, s)
			l = append(l, b)
		}
		for n := range int64(2) {
			b, _ := Encode(k, n)
			l = append(l, b)
		}
		return l
	}
	for _, r := range rows() {
		first := made(r.t)
		for _, b := range first {
			for i := range b[:cap(b)] {
				b[:cap(b)][i] = 0xee
			}
		}
		second := made(r.t)
		for i, s := range []string{"0", "1", `""`, `"ab\\"`, "#", "#0aff"} {
			if want, _ := r.parse(s); !bytes.Equal(second[i], want) {
				t.Errorf("Parse(%s, %q) = %x; want %x", r.name, s, second[i], want)
			}
		}
		for n := range int64(2) {
			if b := second[6+n]; r.bits > 0 && !bytes.Equal(b, r.bytesOf(n)) {
				t.Errorf("Encode(%s, %d) = %x", r.name, n, b)
			}
		}
	}
}

// R4: neither bytes nor a text that are handed in are kept: other bytes in their memory are not seen.
func TestWhatIsHandedInIsNotKept(t *testing.T) {
	room := []byte(`"off" #0aff 77`)
	text, _ := Parse(api.TText, unsafe.String(&room[0], 5))
	raw, _ := Parse(api.TBytes, unsafe.String(&room[6], 5))
	number, _ := Parse(api.TUns8, unsafe.String(&room[12], 2))
	shown, _ := Show(api.TText, room[1:4])
	digits, _ := Show(api.TBytes, room[1:4])
	for i := range room {
		room[i] = 'x'
	}
	if string(text) != "off" || string(raw) != "\x0a\xff" || string(number) != "M" || shown != `"off"` || digits != "#6f6666" {
		t.Errorf("%q %q %q %q %q", text, raw, number, shown, digits)
	}
}

// R5: the same arguments have the same answer, whatever was called between.
func TestOneAnswer(t *testing.T) {
	for _, r := range rows() {
		for _, s := range []string{"1", "300", "-1", `"a\"b"`, "#0aff", "07"} {
			first, e := Parse(r.t, s)
			first = bytes.Clone(first)
			Parse(r.t, "0")
			Encode(r.t, 1)
			Show(r.t, []byte{1})
			second, f := Parse(r.t, s)
			if !bytes.Equal(first, second) || e != f {
				t.Errorf("Parse(%s, %q) = %x, %d, then %x, %d", r.name, s, first, e, second, f)
			}
		}
	}
}

// The chapter's examples.
func TestExamples(t *testing.T) {
	if b, e := Encode(api.TInt16, -2); string(b) != "\xfe\xff" || e != api.OK {
		t.Errorf("%x, %d", b, e)
	}
	if b, e := Encode(api.TUns8, 256); len(b) != 0 || e != api.ErrRange {
		t.Errorf("%x, %d", b, e)
	}
	if n, e := Decode(api.TBool, []byte{2}); n != 0 || e != api.ErrRange {
		t.Errorf("%d, %d", n, e)
	}
	if n, e := Decode(api.TUns32, []byte{1, 2}); n != 0 || e != api.ErrShort {
		t.Errorf("%d, %d", n, e)
	}
	if low, high, ok := Limits(api.TInt8); low != -128 || high != 127 || !ok {
		t.Errorf("%d, %d, %t", low, high, ok)
	}
	if s, e := Show(api.TText, []byte(`a"b`)); s != `"a\"b"` || e != api.OK {
		t.Errorf("%q, %d", s, e)
	}
	if b, e := Parse(api.TBytes, "#0aff"); string(b) != "\x0a\xff" || e != api.OK {
		t.Errorf("%x, %d", b, e)
	}
	if b, e := Parse(api.TUns8, "07"); len(b) != 0 || e != api.ErrForm {
		t.Errorf("%x, %d", b, e)
	}
	if b, e := Parse(api.TUns8, "300"); len(b) != 0 || e != api.ErrRange {
		t.Errorf("%x, %d", b, e)
	}
	if Name(api.TUns16) != "u16" {
		t.Errorf("%q", Name(api.TUns16))
	}
}
