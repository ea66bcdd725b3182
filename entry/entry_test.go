package entry

import (
	"bytes"
	"math"
	"math/big"
	"reflect"
	"regexp"
	"slices"
	"strings"
	"testing"

	"wheelhouse/api"
)

// row is a type as chapter 5's table has it: of a number's type its bytes, whether it has a sign, and its numbers.
type row struct {
	t      int
	size   int
	signed bool
	low    int64
	high   int64
}

// rows are all types, their numbers written out, so that they hang on nothing of the packages.
func rows() []row {
	return []row{
		{0x01, 1, false, 0, 1},
		{0x02, 1, true, -128, 127},
		{0x03, 2, true, -32768, 32767},
		{0x04, 4, true, -2147483648, 2147483647},
		{0x05, 1, false, 0, 255},
		{0x06, 2, false, 0, 65535},
		{0x07, 4, false, 0, 4294967295},
		{t: 0x09},
		{t: 0x0a},
		{t: 0x0f},
		{0x15, 8, true, -9223372036854775808, 9223372036854775807},
	}
}

func (r row) isNumber() bool {
	return r.size > 0
}

// find is a type's row; false, if it is not known.
func find(t int) (row, bool) {
	for _, r := range rows() {
		if r.t == t {
			return r, true
		}
	}
	return row{}, false
}

// The numbers of the errors, of the codes and of the rights, written out as api has them.
const (
	ok, errArg, errForm, errRange, errName, errType = 0, 1, 4, 9, 14, 15

	isConst, isRead, isWrite, isBoth = 1, 2, 3, 4

	writeOnly, readOnly, inside, tooLong, tooShort, noValue, tooHigh, tooLow = 0x06010001, 0x06010002, 0x06040047, 0x06070012, 0x06070013, 0x06090030, 0x06090031, 0x06090032
)

// draw gives numbers below n without a pattern, the same ones each time.
func draw() func(n int) int {
	x := uint64(88172645463325252)
	return func(n int) int {
		x ^= x << 13
		x ^= x >> 7
		x ^= x << 17
		return int(x>>1) % n
	}
}

// numberOf is the number of bytes, the lowest one first, by a way that shares nothing with the packages.
func numberOf(b []byte, signed bool) *big.Int {
	high := slices.Clone(b)
	slices.Reverse(high)
	n := new(big.Int).SetBytes(high)
	if signed && high[0] >= 128 {
		n.Sub(n, new(big.Int).Lsh(big.NewInt(1), uint(8*len(b))))
	}
	return n
}

// bytesOf is back: so many bytes, of any number.
func bytesOf(n int64, size int) []byte {
	power := new(big.Int).Lsh(big.NewInt(1), uint(8*size))
	b := new(big.Int).Mod(big.NewInt(n), power).FillBytes(make([]byte, size))
	slices.Reverse(b)
	return b
}

var nameForm = regexp.MustCompile(`\A[a-z][a-z0-9_]{0,15}\z`)

// textForm is that of a text's bytes, one rune each.
var textForm = regexp.MustCompile(`\A[ -~]*\z`)

// modelValue is P14.3, step by step.
func modelValue(e api.Entry, b []byte) uint32 {
	r, isKnown := find(e.Type)
	switch {
	case !isKnown:
		return inside
	case !r.isNumber() && (len(b) > e.Max || len(b) > 256):
		return tooLong
	case !r.isNumber() && e.Type == 0x09 && !textForm.Match(b):
		return noValue
	case !r.isNumber():
		return 0
	case len(b) < r.size:
		return tooShort
	case len(b) > r.size:
		return tooLong
	}
	n := numberOf(b, r.signed)
	switch {
	case e.Type == 0x01 && n.Cmp(big.NewInt(1)) > 0:
		return noValue
	case n.Cmp(big.NewInt(e.Low)) < 0:
		return tooLow
	case n.Cmp(big.NewInt(e.High)) > 0:
		return tooHigh
	}
	return 0
}

// rule is one thing that may be wrong of an entry.
type rule struct {
	isBroken func(e api.Entry, r row) bool
	e        api.Errno
}

// rules are those of P14.1, in its order; r is the empty row, where the type is not known.
func rules() []rule {
	return []rule{
		{func(e api.Entry, r row) bool { return e.Index < 1 || e.Index > 65535 }, errRange},
		{func(e api.Entry, r row) bool { return e.Sub < 0 || e.Sub > 255 }, errRange},
		{func(e api.Entry, r row) bool { return !nameForm.MatchString(e.Name) }, errName},
		{func(e api.Entry, r row) bool { return r.t == 0 }, errType},
		{func(e api.Entry, r row) bool { return !slices.Contains([]int{1, 2, 3, 4}, e.Access) }, errArg},
		{func(e api.Entry, r row) bool { return r.isNumber() && e.Max != 0 }, errArg},
		{func(e api.Entry, r row) bool { return r.isNumber() && (e.Low < r.low || e.Low > r.high) }, errArg},
		{func(e api.Entry, r row) bool { return r.isNumber() && (e.High < r.low || e.High > r.high) }, errArg},
		{func(e api.Entry, r row) bool { return r.isNumber() && e.Low > e.High }, errArg},
		{func(e api.Entry, r row) bool { return !r.isNumber() && (e.Low != 0 || e.High != 0) }, errArg},
		{func(e api.Entry, r row) bool { return !r.isNumber() && (e.Max < 1 || e.Max > 256) }, errArg},
		{func(e api.Entry, r row) bool { return !r.isNumber() && e.Map }, errArg},
		{func(e api.Entry, r row) bool { return e.Store && e.Access != isWrite && e.Access != isBoth }, errArg},
		{func(e api.Entry, r row) bool { return e.Map && e.Access == isConst }, errArg},
		{func(e api.Entry, r row) bool { return modelValue(e, e.Default) != 0 }, errForm},
	}
}

// modelRight is the first rule that is broken.
func modelRight(e api.Entry) api.Errno {
	r, _ := find(e.Type)
	for _, x := range rules() {
		if x.isBroken(e, r) {
			return x.e
		}
	}
	return ok
}

// whole is an entry of a type of which nothing is wrong.
func whole(r row) api.Entry {
	e := api.Entry{Index: 0x2000, Sub: 1, Name: "x", Type: r.t, Access: isBoth, Low: r.low, High: r.high}
	if r.isNumber() {
		e.Default = bytesOf(r.low, r.size)
	} else {
		e.Max = 4
		e.Default = []byte("abc")
	}
	return e
}

// wrongs are ways to break an entry, one rule each, in P14.1's order, and what Right says then; those for a number's entry, or for another one.
func wrongs(isNumber bool) []struct {
	f func(e *api.Entry)
	e api.Errno
} {
	type wrong = struct {
		f func(e *api.Entry)
		e api.Errno
	}
	l := []wrong{
		{func(e *api.Entry) { e.Index = 0 }, errRange},
		{func(e *api.Entry) { e.Sub = 256 }, errRange},
		{func(e *api.Entry) { e.Name = "" }, errName},
		{func(e *api.Entry) { e.Type = 8 }, errType},
		{func(e *api.Entry) { e.Access = 0 }, errArg},
	}
	if isNumber {
		l = append(l, wrong{func(e *api.Entry) { e.Max = 1 }, errArg}, wrong{func(e *api.Entry) { e.Low, e.High = 1, 0 }, errArg})
	} else {
		l = append(l, wrong{func(e *api.Entry) { e.Low = 1 }, errArg}, wrong{func(e *api.Entry) { e.High = 1 }, errArg}, wrong{func(e *api.Entry) { e.Max = 0 }, errArg}, wrong{func(e *api.Entry) { e.Map = true }, errArg})
	}
	return append(l,
		wrong{func(e *api.Entry) { e.Store, e.Access = true, isRead }, errArg},
		wrong{func(e *api.Entry) { e.Map, e.Access = true, isConst }, errArg},
		wrong{func(e *api.Entry) { e.Default = make([]byte, 300) }, errForm},
	)
}

// bounds are numbers about each type's limits, and about each power of two.
func bounds() []int64 {
	var l []int64
	for i := range 64 {
		for p := int64(-1); p <= 1; p++ {
			l = append(l, 1<<i+p, -1<<i+p)
		}
	}
	return append(l, 0, 10, 1000, -1000)
}

// extremes are ints that lie far off, or near to a small one where high bits are lost, or where a difference wraps round.
func extremes() []int {
	l := []int{math.MinInt, math.MinInt + 1, math.MaxInt, math.MaxInt - 1, math.MinInt32, math.MaxInt32, -1, -2, -256}
	for _, n := range []int{0, 1, 2, 3, 4, 5, 9, 255, 256, 0x1017, 0x6000, 65535} {
		l = append(l, 1<<32+n, -1<<32+n, 1<<16+n, -1<<16+n, math.MinInt+n, math.MaxInt-n)
	}
	return l
}

// texts are bytes of all kinds of lengths and signs.
func texts() [][]byte {
	l := [][]byte{nil, {}, []byte("a"), []byte("abc"), []byte("abcd"), []byte("abcde"), {0}, {1}, {2}, {31}, {32}, {126}, {127}, {255}, {'a', 10}, {10, 'a'}, []byte("ü"), {0x0a, 0}, {9, 0}, {0xe8, 3}, {0xe9, 3}, {255, 255}, {0, 128}}
	for _, n := range []int{3, 4, 5, 7, 8, 9, 254, 255, 256, 257, 300, 65536 + 3} {
		l = append(l, make([]byte, n), bytes.Repeat([]byte{255}, n), bytes.Repeat([]byte{'~'}, n), append(bytes.Repeat([]byte{' '}, n-1), 127))
	}
	return l
}

// Made once: the tests ask for them again and again, and change none.
var (
	allRows     = rows()
	allBounds   = bounds()
	allExtremes = extremes()
	allTexts    = texts()
)

// with is a list and more behind it, in new memory.
func with[T any](l []T, more ...T) []T {
	return slices.Concat(l, more)
}

// pick is one of a list, without a pattern.
func pick[T any](next func(int) int, l []T) T {
	return l[next(len(l))]
}

// anyEntry is an entry: mostly of the right kind, with all that lies about what is right.
func anyEntry(next func(int) int) api.Entry {
	e := whole(pick(next, allRows))
	e.Access = 1 + next(4)
	e.Store = next(3) == 0
	e.Map = next(3) == 0
	if next(2) == 0 {
		e.Low = pick(next, allBounds)
	}
	if next(2) == 0 {
		e.High = pick(next, allBounds)
	}
	if next(2) == 0 {
		e.Default = pick(next, allTexts)
	}
	switch next(12) {
	case 0:
		e.Index = pick(next, with(allExtremes, 0, 1, 65535, 65536))
	case 1:
		e.Sub = pick(next, with(allExtremes, 0, 255, 256))
	case 2:
		e.Name = pick(next, []string{"", "A", "a", "_", "1", "a1_", "abcdefghijklmnop", "abcdefghijklmnopq", "a b", "ä"})
	case 3:
		e.Type = pick(next, with(allExtremes, 0, 1, 2, 3, 4, 5, 6, 7, 8, 9, 10, 11, 14, 15, 16, 20, 21, 22))
	case 4:
		e.Access = pick(next, with(allExtremes, 0, 5))
	case 5, 6, 7:
		e.Max = pick(next, with(allExtremes, 0, 1, 2, 3, 255, 256, 257))
	}
	return e
}

// P14.1: the lengths of a name, from none on.
func TestNameLengths(t *testing.T) {
	for n := range 600 {
		for _, s := range []string{strings.Repeat("a", n), "z" + strings.Repeat("9", n), "q" + strings.Repeat("_", n)} {
			if got, want := Name(s), len(s) >= 1 && len(s) <= 16; got != want {
				t.Fatalf("%d bytes %q: %v", len(s), s, got)
			}
		}
	}
	if Name(strings.Repeat("a", 1<<16+1)) || Name(strings.Repeat("a", 1<<8+1)) {
		t.Error("a length that wraps round")
	}
}

// P14.1: each byte at each place of a name of each length.
func TestNameBytes(t *testing.T) {
	for n := 1; n <= 16; n++ {
		for at := range n {
			for c := range 256 {
				b := bytes.Repeat([]byte{'k'}, n)
				b[at] = byte(c)
				isLow, isNum := c >= 97 && c <= 122, c >= 48 && c <= 57
				want := isLow || at > 0 && (isNum || c == 95)
				if got := Name(string(b)); got != want {
					t.Fatalf("%q: %v", b, got)
				}
			}
		}
	}
}

// P14.1: names and what are none, by the form as a whole.
func TestNames(t *testing.T) {
	for _, s := range []string{"beat", "a", "z", "a_", "a0", "a9z_", "abcdefghijklmnop", "x________________"[:16]} {
		if !Name(s) {
			t.Errorf("%q is a name", s)
		}
	}
	for _, s := range []string{"", "1a", "_a", "Beat", "beAt", "be at", "beat ", " beat", "beat\n", "\nbeat", "beat\x00", "é", "aé", "ａ", "aａ", "a.b", "a-b", "abcdefghijklmnopq", "a²"} {
		if Name(s) {
			t.Errorf("%q is no name", s)
		}
	}
	next := draw()
	for range 200000 {
		b := make([]byte, next(18))
		for i := range b {
			b[i] = pick(next, []byte("abcmyz019_09az_`{/:^AZ\x00\xff"))
			if next(8) > 0 {
				b[i] = pick(next, []byte("abz_09"))
			}
		}
		if got, want := Name(string(b)), nameForm.Match(b); got != want {
			t.Fatalf("%q: %v", b, got)
		}
	}
}

// P14.1: an entry of each type of which nothing is wrong.
func TestRightOfWhole(t *testing.T) {
	for _, r := range allRows {
		if got := Right(whole(r)); got != ok {
			t.Errorf("%#x: %d", r.t, got)
		}
	}
}

// P14.1: each thing that is wrong alone, and two at once, of which the first is told.
func TestRightTellsTheFirst(t *testing.T) {
	for _, r := range allRows {
		l := wrongs(r.isNumber())
		for i, a := range l {
			e := whole(r)
			a.f(&e)
			if got := Right(e); got != a.e {
				t.Errorf("type %#x, wrong %d: %d, not %d", r.t, i, got, a.e)
			}
			for k, b := range l[:i] {
				e := whole(r)
				b.f(&e)
				a.f(&e)
				if got := Right(e); got != b.e {
					t.Errorf("type %#x, wrongs %d and %d: %d, not %d", r.t, k, i, got, b.e)
				}
			}
		}
	}
}

// P14.1: all places, and those far off.
func TestRightPlaces(t *testing.T) {
	e := whole(allRows[5])
	check := func(index, sub int, want bool) {
		t.Helper()
		e.Index, e.Sub = index, sub
		wanted := api.Errno(errRange)
		if want {
			wanted = ok
		}
		if got := Right(e); got != wanted {
			t.Fatalf("%d:%d: %d", index, sub, got)
		}
	}
	for i := -70000; i <= 140000; i++ {
		check(i, 0, i >= 1 && i <= 65535)
	}
	for i := -700; i <= 1400; i++ {
		check(1, i, i >= 0 && i <= 255)
		check(65535, i, i >= 0 && i <= 255)
		check(0, i, false)
		check(65536, i, false)
	}
	for _, x := range allExtremes {
		check(x, 0, x >= 1 && x <= 65535)
		check(1, x, x >= 0 && x <= 255)
	}
}

// P14.1: all small types, and those that a narrower number takes for a known one.
func TestRightTypes(t *testing.T) {
	l := slices.Clone(allExtremes)
	for i := -600; i <= 600; i++ {
		l = append(l, i)
	}
	for _, x := range l {
		r, isKnown := find(x)
		e := api.Entry{Index: 1, Name: "a", Type: x, Access: isBoth}
		if isKnown {
			e = whole(r)
		}
		if got := Right(e); (got == ok) != isKnown || !isKnown && got != errType {
			t.Errorf("type %d: %d", x, got)
		}
	}
}

// P14.1: all rights, with and without Map and Store, of each type.
func TestRightRights(t *testing.T) {
	for _, r := range allRows {
		for _, a := range with(allExtremes, 0, 1, 2, 3, 4, 5, 6, 255, 256, 257, 258, 259, 260) {
			for flags := range 4 {
				e := whole(r)
				e.Access, e.Map, e.Store = a, flags&1 != 0, flags&2 != 0
				isKnown := a == isConst || a == isRead || a == isWrite || a == isBoth
				isRight := isKnown && !(e.Store && a != isWrite && a != isBoth) && !(e.Map && (a == isConst || !r.isNumber()))
				if got := Right(e); (got == ok) != isRight || !isRight && got != errArg {
					t.Errorf("type %#x, rights %d, %d: %d", r.t, a, flags, got)
				}
			}
		}
	}
}

// P14.1: a number's entry has limits within its type's, and no Max.
func TestRightLimits(t *testing.T) {
	for _, r := range allRows {
		if !r.isNumber() {
			continue
		}
		l := slices.Clone(allBounds)
		for d := int64(-2); d <= 2; d++ {
			l = append(l, r.low+d, r.high+d)
		}
		for _, low := range l {
			for _, high := range l {
				e := whole(r)
				e.Low, e.High, e.Default = low, high, bytesOf(low, r.size)
				isRight := low >= r.low && low <= r.high && high >= r.low && high <= r.high && low <= high
				if got := Right(e); (got == ok) != isRight || !isRight && got != errArg {
					t.Fatalf("type %#x, %d to %d: %d", r.t, low, high, got)
				}
			}
		}
		for _, most := range with(allExtremes, 1, 2, 8, 255, 256, 257) {
			e := whole(r)
			e.Max = most
			if got := Right(e); got != errArg {
				t.Fatalf("type %#x, at most %d bytes: %d", r.t, most, got)
			}
		}
	}
}

// P14.1: another entry has a Max of 1 to 256, and no limits.
func TestRightMax(t *testing.T) {
	for _, r := range allRows {
		if r.isNumber() {
			continue
		}
		l := slices.Clone(allExtremes)
		for n := -600; n <= 600; n++ {
			l = append(l, n)
		}
		for _, most := range l {
			e := whole(r)
			e.Max, e.Default = most, nil
			isRight := most >= 1 && most <= 256
			if got := Right(e); (got == ok) != isRight || !isRight && got != errArg {
				t.Fatalf("type %#x, at most %d bytes: %d", r.t, most, got)
			}
		}
		for _, n := range with(allBounds, math.MinInt64, math.MaxInt64, 1<<32, 1<<56) {
			low, high, both := whole(r), whole(r), whole(r)
			low.Low, high.High, both.Low, both.High = n, n, n, n
			for _, e := range []api.Entry{low, high, both} {
				if got := Right(e); (got == ok) != (n == 0) || n != 0 && got != errArg {
					t.Fatalf("type %#x, %d to %d: %d", r.t, e.Low, e.High, got)
				}
			}
		}
	}
}

// P14.1: a Default that is a value is right, and any other is not.
func TestRightDefault(t *testing.T) {
	for _, r := range allRows {
		for _, b := range allTexts {
			e := whole(r)
			if r.isNumber() && r.t != 0x01 {
				e.Low, e.High = 2, 100
			}
			e.Default = b
			isRight := modelValue(e, b) == 0
			if got := Right(e); (got == ok) != isRight || !isRight && got != errForm {
				t.Errorf("type %#x, %x: %d", r.t, b, got)
			}
		}
	}
}

// P14.1: entries of all kinds, held against the promise rule by rule.
func TestRightAgainstModel(t *testing.T) {
	next := draw()
	said := map[api.Errno]int{}
	for range 300000 {
		e := anyEntry(next)
		want := modelRight(e)
		said[want]++
		if got := Right(e); got != want {
			t.Fatalf("%+v: %d, not %d", e, got, want)
		}
	}
	for _, e := range []api.Errno{ok, errRange, errName, errType, errArg, errForm} {
		if said[e] < 100 {
			t.Errorf("%d was asked for %d times", e, said[e])
		}
	}
}

// P14.2: what each right refuses; what is none refuses nothing. Nothing but the right counts.
func TestReadableWritable(t *testing.T) {
	next := draw()
	for _, a := range with(allExtremes, 0, 1, 2, 3, 4, 5, 6, 7, 8, 255, 256, 257, 258, 259, 260) {
		for range 50 {
			e := anyEntry(next)
			e.Access = a
			var read, written uint32
			if a == 3 {
				read = writeOnly
			}
			if a == 1 || a == 2 {
				written = readOnly
			}
			if got := Readable(e); got != read {
				t.Fatalf("rights %d: read %#x", a, got)
			}
			if got := Writable(e); got != written {
				t.Fatalf("rights %d: written %#x", a, got)
			}
		}
	}
}

// checkValue holds one answer against the promise.
func checkValue(t *testing.T, e api.Entry, b []byte) {
	t.Helper()
	if got, want := Value(e, b), modelValue(e, b); got != want {
		t.Fatalf("%+v, %x: %#x, not %#x", e, b, got, want)
	}
}

// P14.3: of each number's type bytes of each length.
func TestValueLengths(t *testing.T) {
	for _, r := range allRows {
		if !r.isNumber() {
			continue
		}
		e := whole(r)
		for _, n := range []int{0, 1, 2, 3, 4, 5, 6, 7, 8, 9, 10, 16, 255, 256, 257, 258, 264, 65536 + r.size} {
			want := uint32(0)
			if n < r.size {
				want = tooShort
			}
			if n > r.size {
				want = tooLong
			}
			for _, most := range []int{0, 1, n, 256, -1, math.MinInt, math.MaxInt} {
				// Max says nothing of a number.
				e.Max = most
				if got := Value(e, make([]byte, n)); got != want {
					t.Fatalf("type %#x, %d bytes: %#x", r.t, n, got)
				}
			}
		}
	}
}

// P14.3: all bytes of a bool: above 1 it is none, whatever the limits are.
func TestValueBool(t *testing.T) {
	for c := range 256 {
		for _, l := range [][2]int64{{0, 1}, {0, 0}, {1, 1}, {1, 0}, {0, 255}, {-5, -3}, {300, 301}} {
			e := api.Entry{Type: 0x01, Low: l[0], High: l[1]}
			want := uint32(0)
			switch n := int64(c); {
			case n > 1:
				want = noValue
			case n < l[0]:
				want = tooLow
			case n > l[1]:
				want = tooHigh
			}
			if got := Value(e, []byte{byte(c)}); got != want {
				t.Fatalf("%d in %v: %#x", c, l, got)
			}
		}
	}
}

// P14.3: numbers about the limits, at them and far off.
func TestValueLimits(t *testing.T) {
	next := draw()
	for _, r := range allRows {
		if !r.isNumber() {
			continue
		}
		for range 20000 {
			e := whole(r)
			e.Low, e.High = pick(next, allBounds), pick(next, allBounds)
			for _, n := range []int64{e.Low - 1, e.Low, e.Low + 1, e.High - 1, e.High, e.High + 1, pick(next, allBounds)} {
				checkValue(t, e, bytesOf(n, r.size))
			}
		}
	}
}

// P14.3: where the limits stand the wrong way round, too low is told ahead of too high.
func TestValueLowFirst(t *testing.T) {
	e := api.Entry{Type: 0x05, Low: 9, High: 3}
	for n, want := range map[byte]uint32{0: tooLow, 3: tooLow, 4: tooLow, 8: tooLow, 9: tooHigh, 10: tooHigh, 255: tooHigh} {
		if got := Value(e, []byte{n}); got != want {
			t.Errorf("%d: %#x", n, got)
		}
	}
}

// P14.3: of other types bytes up to Max, and never above 256.
func TestValueMax(t *testing.T) {
	for _, r := range allRows {
		if r.isNumber() {
			continue
		}
		for _, most := range with(allExtremes, 0, 1, 2, 3, 254, 255, 256, 257, 258, 300, 512, 65536) {
			// Limits say nothing of them.
			e := api.Entry{Type: r.t, Max: most, Low: 5, High: -5}
			for _, n := range []int{0, 1, 2, 3, 4, 253, 254, 255, 256, 257, 258, 300, 511, 512, 65536} {
				want := uint32(0)
				if n > most || n > 256 {
					want = tooLong
				}
				if got := Value(e, bytes.Repeat([]byte{'a'}, n)); got != want {
					t.Fatalf("type %#x, %d of at most %d: %#x", r.t, n, most, got)
				}
			}
		}
	}
}

// P14.3: each byte at each place: a text has some of them, the others have all. Too long is told first.
func TestValueBytes(t *testing.T) {
	for c := range 256 {
		for at := range 5 {
			b := []byte("hello")
			b[at] = byte(c)
			want := uint32(0)
			if c < 32 || c > 126 {
				want = noValue
			}
			if got := Value(api.Entry{Type: 0x09, Max: 5}, b); got != want {
				t.Fatalf("text %q: %#x", b, got)
			}
			if got := Value(api.Entry{Type: 0x09, Max: 4}, b); got != tooLong {
				t.Fatalf("text %q, too long: %#x", b, got)
			}
			for _, other := range []int{0x0a, 0x0f} {
				if got := Value(api.Entry{Type: other, Max: 5}, b); got != 0 {
					t.Fatalf("type %#x, %q: %#x", other, b, got)
				}
			}
		}
	}
}

// P14.3: of a type that is not known nothing is a value.
func TestValueUnknown(t *testing.T) {
	l := slices.Clone(allExtremes)
	for i := -600; i <= 600; i++ {
		l = append(l, i)
	}
	for _, x := range l {
		if _, isKnown := find(x); isKnown {
			continue
		}
		for _, b := range allTexts {
			if got := Value(api.Entry{Type: x, Max: 8, High: 9}, b); got != inside {
				t.Fatalf("type %d, %x: %#x", x, b, got)
			}
		}
	}
}

// P14.3: entries and bytes of all kinds, held against the promise.
func TestValueAgainstModel(t *testing.T) {
	next := draw()
	for range 300000 {
		checkValue(t, anyEntry(next), pick(next, allTexts))
	}
}

// P14.3: what is wrong elsewhere of an entry, or of its Default, does not count.
func TestValueHangsOnLittle(t *testing.T) {
	next := draw()
	for range 50000 {
		a, o := anyEntry(next), anyEntry(next)
		b := pick(next, allTexts)
		o.Type, o.Max, o.Low, o.High = a.Type, a.Max, a.Low, a.High
		if Value(a, b) != Value(o, b) {
			t.Fatalf("%+v, %+v, %x", a, o, b)
		}
	}
}

// P14.4: the group of every Index, and of those far off.
func TestGroup(t *testing.T) {
	next := draw()
	check := func(i int) {
		t.Helper()
		want := 1
		if i >= 0 {
			switch i >> 12 {
			case 1:
				want = 2
			case 2, 3, 4, 5:
				want = 4
			case 6, 7, 8, 9:
				want = 3
			}
		}
		e := api.Entry{}
		if i%97 == 0 {
			e = anyEntry(next)
		}
		e.Index = i
		if got := Group(e); got != want {
			t.Fatalf("%#x: %d", i, got)
		}
	}
	for i := -70000; i <= 140000; i++ {
		check(i)
	}
	for _, x := range allExtremes {
		check(x)
	}
}

// P14.4: which stands ahead, by the two numbers as one great one; nothing else counts.
func TestBefore(t *testing.T) {
	l := with(allExtremes, 0, 1, 2, 255, 256, 0x1017, 0x1018, 65535, 65536)
	great := func(e api.Entry) *big.Int {
		n := new(big.Int).Lsh(big.NewInt(int64(e.Index)), 70)
		return n.Add(n, big.NewInt(int64(e.Sub)))
	}
	next := draw()
	for range 300000 {
		a, b := anyEntry(next), anyEntry(next)
		a.Index, a.Sub = pick(next, l), pick(next, l)
		b.Index, b.Sub = pick(next, l), pick(next, l)
		if next(2) == 0 {
			b.Index = a.Index
		}
		if got, want := Before(a, b), great(a).Cmp(great(b)) < 0; got != want {
			t.Fatalf("%d:%d ahead of %d:%d: %v", a.Index, a.Sub, b.Index, b.Sub, got)
		}
		b.Index, b.Sub = a.Index, a.Sub
		if Before(a, b) || Before(b, a) {
			t.Fatalf("%d:%d ahead of itself", a.Index, a.Sub)
		}
	}
}

// P14.5: of the types of up to two bytes all of them: what is accepted are just the numbers within the limits.
func TestLawsOfSmallTypes(t *testing.T) {
	limits := [][2]int64{{0, 0}, {0, 1}, {1, 1}, {-1, 1}, {-128, 127}, {0, 127}, {0, 255}, {10, 1000}, {-300, 300}, {-32768, 32767}, {0, 65535}, {256, 511}}
	for _, r := range allRows {
		if r.size != 1 && r.size != 2 {
			continue
		}
		for _, l := range limits {
			if l[0] < r.low || l[1] > r.high {
				continue
			}
			e := whole(r)
			e.Low, e.High = l[0], l[1]
			var accepted []int64
			for n := range 1 << (8 * r.size) {
				b := bytesOf(int64(n), r.size)
				if Value(e, b) == 0 {
					accepted = append(accepted, numberOf(b, r.signed).Int64())
				}
			}
			slices.Sort(accepted)
			var want []int64
			for n := l[0]; n <= l[1]; n++ {
				want = append(want, n)
			}
			if !slices.Equal(accepted, want) {
				t.Errorf("type %#x, %d to %d: %d are accepted", r.t, l[0], l[1], len(accepted))
			}
		}
	}
}

// P14.5: of all types bytes of any length: none but its type's, and within the limits.
func TestLawsOfAllTypes(t *testing.T) {
	next := draw()
	for _, r := range allRows {
		if !r.isNumber() {
			continue
		}
		for range 30000 {
			e := whole(r)
			e.Low, e.High = r.low+int64(next(50)), r.high-int64(next(50))
			if r.t == 0x01 {
				e.Low, e.High = r.low, r.high
			}
			b := make([]byte, next(10))
			for i := range b {
				b[i] = pick(next, []byte{0, 1, 127, 128, 255, byte(next(256))})
			}
			isIn := false
			if len(b) == r.size {
				n := numberOf(b, r.signed)
				isIn = n.Cmp(big.NewInt(e.Low)) >= 0 && n.Cmp(big.NewInt(e.High)) <= 0
			}
			if got := Value(e, b); (got == 0) != isIn {
				t.Fatalf("%+v, %x: %#x", e, b, got)
			}
		}
	}
}

// R1: all calls at the empty entry, and at entries without any sense.
func TestEnds(t *testing.T) {
	if Right(api.Entry{}) != errRange || Readable(api.Entry{}) != 0 || Writable(api.Entry{}) != 0 || Value(api.Entry{}, nil) != inside || Group(api.Entry{}) != 1 || Before(api.Entry{}, api.Entry{}) || Name("") {
		t.Error("the empty entry")
	}
	next := draw()
	l := with(allExtremes, 0, 1, 2, 3, 4, 5, 6, 7, 9, 10, 15, 21, 256, 65535)
	for range 200000 {
		e := api.Entry{Index: pick(next, l), Sub: pick(next, l), Name: string(pick(next, allTexts)), Type: pick(next, l), Access: pick(next, l), Map: next(2) == 0, Store: next(2) == 0, Max: pick(next, l), Low: int64(pick(next, l)), High: int64(pick(next, l)), Default: pick(next, allTexts)}
		b := pick(next, allTexts)
		if Right(e) != modelRight(e) || Value(e, b) != modelValue(e, b) {
			t.Fatalf("%+v, %x: %d, %#x", e, b, Right(e), Value(e, b))
		}
		Readable(e)
		Writable(e)
		Group(e)
		Before(e, api.Entry{Index: pick(next, l), Sub: pick(next, l)})
		Name(e.Name)
	}
}

// R1: a nil list is an empty one.
func TestNilIsEmpty(t *testing.T) {
	for _, r := range allRows {
		e := whole(r)
		if Value(e, nil) != Value(e, []byte{}) {
			t.Errorf("type %#x: a nil value", r.t)
		}
		empty := whole(r)
		e.Default, empty.Default = nil, []byte{}
		if Right(e) != Right(empty) {
			t.Errorf("type %#x: a nil Default", r.t)
		}
	}
}

// R4: neither the lists nor the room behind them are changed.
func TestArgumentsAreLeft(t *testing.T) {
	next := draw()
	for range 20000 {
		e := anyEntry(next)
		e.Default = append(slices.Clone(e.Default), 1, 2, 3, 4)
		e.Default = e.Default[:len(e.Default)-next(5)]
		b := append(slices.Clone(pick(next, allTexts)), 5, 6, 7, 8)
		b = b[:len(b)-next(5)]
		wasEntry, wasDefault, wasB := e, slices.Clone(e.Default[:cap(e.Default)]), slices.Clone(b[:cap(b)])
		Right(e)
		Value(e, b)
		Readable(e)
		Writable(e)
		Group(e)
		Before(e, e)
		if !reflect.DeepEqual(e, wasEntry) || !bytes.Equal(e.Default[:cap(e.Default)], wasDefault) || !bytes.Equal(b[:cap(b)], wasB) {
			t.Fatalf("%+v, %x", e, b)
		}
	}
}

// R5: the same is answered again, whatever was asked between.
func TestOneAnswer(t *testing.T) {
	next := draw()
	type asked struct {
		e       api.Entry
		b       []byte
		right   api.Errno
		value   uint32
		read    uint32
		written uint32
		group   int
	}
	var l []asked
	for range 3000 {
		e, b := anyEntry(next), pick(next, allTexts)
		l = append(l, asked{e, b, Right(e), Value(e, b), Readable(e), Writable(e), Group(e)})
	}
	for _, a := range slices.Backward(l) {
		if Right(a.e) != a.right || Value(a.e, a.b) != a.value || Readable(a.e) != a.read || Writable(a.e) != a.written || Group(a.e) != a.group {
			t.Fatalf("%+v, %x", a.e, a.b)
		}
	}
}

// The chapter's examples.
func TestExamples(t *testing.T) {
	beat := api.Entry{Index: 0x1017, Name: "beat", Type: api.TUns16, Access: api.AccBoth, Low: 0, High: 1000, Default: []byte{0xe8, 0x03}}
	if got := Right(beat); got != api.OK {
		t.Errorf("Right: %d", got)
	}
	if got := Value(beat, []byte{0xe9, 0x03}); got != api.AbHigh {
		t.Errorf("1001: %#x", got)
	}
	if got := Value(beat, []byte{0x01}); got != api.AbTooShort {
		t.Errorf("one byte: %#x", got)
	}
	if got := Value(api.Entry{Type: api.TText, Max: 3}, []byte("abcd")); got != api.AbTooLong {
		t.Errorf("abcd: %#x", got)
	}
}
