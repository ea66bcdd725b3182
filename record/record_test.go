package record

import (
	"bytes"
	"encoding/binary"
	"encoding/hex"
	"hash/crc32"
	"math"
	"slices"
	"testing"

	"wheelhouse/api"
)

// draw answers numbers without a pattern, the same ones in each run.
func draw() func() uint32 {
	state := uint64(0x9e3779b97f4a7c15)
	return func() uint32 {
		state = state*6364136223846793005 + 1442695040888963407
		return uint32(state >> 32)
	}
}

// noise is n bytes without a pattern.
func noise(next func() uint32, n int) []byte {
	b := make([]byte, n)
	for i := range b {
		b[i] = byte(next() >> 7)
	}
	return b
}

// whole is a record's bytes, laid down by a way that shares nothing with the package, whether or not it is right.
func whole(kind byte, number uint32, data []byte) []byte {
	b := []byte{'W', kind}
	b = binary.LittleEndian.AppendUint32(b, number)
	b = binary.LittleEndian.AppendUint16(b, uint16(len(data)))
	b = append(b, data...)
	b = binary.LittleEndian.AppendUint32(b, crc32.ChecksumIEEE(b))
	return append(b, 0)
}

// model is what P7.2 asks of Parse, word by word.
func model(b []byte, at int) (api.Record, int, api.Errno) {
	none := api.Record{}
	if at < 0 || at > len(b) {
		return none, 0, api.ErrArg
	}
	b = b[at:]
	if len(b) < 13 {
		return none, 0, api.ErrShort
	}
	kind, number, n := int(b[1]), binary.LittleEndian.Uint32(b[2:]), int(binary.LittleEndian.Uint16(b[6:]))
	if b[0] != 'W' || kind != 1 && kind != 2 || number == 0 || kind == 2 && n > 0 || n > 960 {
		return none, 0, api.ErrForm
	}
	if len(b) < 13+n {
		return none, 0, api.ErrShort
	}
	if binary.LittleEndian.Uint32(b[8+n:]) != crc32.ChecksumIEEE(b[:8+n]) {
		return none, 0, api.ErrSum
	}
	if b[12+n] != 0 {
		return none, 0, api.ErrNone
	}
	return api.Record{Kind: kind, Number: number, Data: b[8 : 8+n]}, at + 13 + n, api.OK
}

func isSame(a, b api.Record) bool {
	return a.Kind == b.Kind && a.Number == b.Number && bytes.Equal(a.Data, b.Data)
}

// isZero tells whether nothing is told of a record (R3).
func isZero(r api.Record) bool {
	return r.Kind == 0 && r.Number == 0 && len(r.Data) == 0
}

// checkParse holds Parse against the model, and what is parsed against its bytes (P7.4).
func checkParse(t *testing.T, b []byte, at int) api.Errno {
	t.Helper()
	r, to, e := Parse(b, at)
	want, behind, f := model(b, at)
	if !isSame(r, want) || to != behind || e != f {
		t.Fatalf("Parse(%x, %d) = %v, %d, %d; want %v, %d, %d", b, at, r, to, e, want, behind, f)
	}
	if e != api.OK {
		return e
	}
	if built, g := Build(r); g != api.OK || !bytes.Equal(built, b[at:to]) {
		t.Fatalf("Parse(%x, %d) = %v, which has the bytes %x, %d", b, at, r, built, g)
	}
	return e
}

// rights are records that are right: both kinds, numbers about each byte's end, data of all kinds of lengths.
func rights() []api.Record {
	next := draw()
	numbers := []uint32{1, 2, 127, 128, 255, 256, 257, 65535, 65536, 1<<24 - 1, 1 << 24, 1<<31 - 1, 1 << 31, 0x04030201, 0xfcfdfeff, math.MaxUint32 - 1, math.MaxUint32}
	var l []api.Record
	for _, n := range numbers {
		l = append(l, api.Record{Kind: api.KindFactory, Number: n}, api.Record{Kind: api.KindFactory, Number: n, Data: []byte{}})
		l = append(l, api.Record{Kind: api.KindSnapshot, Number: n}, api.Record{Kind: api.KindSnapshot, Number: n, Data: noise(next, 5)})
	}
	for _, n := range []int{1, 2, 3, 12, 13, 14, 127, 128, 255, 256, 257, 511, 512, 513, 767, 768, 959, 960} {
		for _, data := range [][]byte{noise(next, n), make([]byte, n), bytes.Repeat([]byte{255}, n), bytes.Repeat([]byte{'W'}, n)} {
			l = append(l, api.Record{Kind: api.KindSnapshot, Number: next() | 1, Data: data})
		}
	}
	return l
}

// wrongKinds are none, also where just their lowest byte is one.
var wrongKinds = []int{math.MinInt, -256, -255, -254, -2, -1, 0, 3, 4, 87, 255, 256, 257, 258, 1<<16 + 1, 1<<32 + 1, 1<<32 + 2, math.MaxInt}

func TestExtra(t *testing.T) {
	if Extra != 13 {
		t.Error(Extra)
	}
	for _, r := range rights() {
		if b, e := Build(r); len(b) != len(r.Data)+13 || e != api.OK {
			t.Errorf("Build(%v) = %d bytes, %d", r, len(b), e)
		}
	}
}

// checkRight holds Right and Build to the same error.
func checkRight(t *testing.T, r api.Record, want api.Errno) {
	t.Helper()
	if e := Right(r); e != want {
		t.Errorf("Right(%d, %d, %d bytes) = %d; want %d", r.Kind, r.Number, len(r.Data), e, want)
	}
	b, e := Build(r)
	if e != want || e != api.OK && len(b) != 0 {
		t.Errorf("Build(%d, %d, %d bytes) = %x, %d; want %d", r.Kind, r.Number, len(r.Data), b, e, want)
	}
}

// P7.1
func TestRightRecords(t *testing.T) {
	for _, r := range rights() {
		checkRight(t, r, api.OK)
	}
}

// P7.1
func TestRightKinds(t *testing.T) {
	for _, kind := range wrongKinds {
		for _, number := range []uint32{0, 1, math.MaxUint32} {
			for _, n := range []int{0, 1, 960, 961} {
				checkRight(t, api.Record{Kind: kind, Number: number, Data: make([]byte, n)}, api.ErrArg)
			}
		}
	}
}

// P7.1: what is said of kind and number is said ahead of what is said of the length (R2).
func TestRightEdges(t *testing.T) {
	for _, c := range []struct {
		kind   int
		number uint32
		n      int
		want   api.Errno
	}{
		{1, 0, 0, api.ErrArg},
		{1, 0, 5, api.ErrArg},
		{1, 0, 961, api.ErrArg},
		{2, 0, 0, api.ErrArg},
		{2, 1, 0, api.OK},
		{2, 1, 1, api.ErrArg},
		{2, 1, 960, api.ErrArg},
		{2, 1, 961, api.ErrArg},
		{2, 0, 1, api.ErrArg},
		{1, 1, 0, api.OK},
		{1, 1, 1, api.OK},
		{1, 1, 959, api.OK},
		{1, 1, 960, api.OK},
		{1, 1, 961, api.ErrBig},
		{1, 1, 1024, api.ErrBig},
		{1, 1, 65535, api.ErrBig},
		{1, 1, 65536, api.ErrBig},
		{1, 1, 65537, api.ErrBig},
		{1, math.MaxUint32, 960, api.OK},
		{1, math.MaxUint32, 961, api.ErrBig},
	} {
		checkRight(t, api.Record{Kind: c.kind, Number: c.number, Data: make([]byte, c.n)}, c.want)
	}
}

// P7.1: bytes that were worked out elsewhere.
func TestBuildKnown(t *testing.T) {
	for _, c := range []struct {
		r    api.Record
		want string
	}{
		{api.Record{Kind: 2, Number: 1}, "57020100000000003ae7026600"},
		{api.Record{Kind: 1, Number: 258, Data: []byte("hi")}, "57010201000002006869151d287800"},
		{api.Record{Kind: 1, Number: 0x04030201, Data: []byte{0}}, "57010102030401000080152f1e00"},
	} {
		if b, e := Build(c.r); hex.EncodeToString(b) != c.want || e != api.OK {
			t.Errorf("Build(%v) = %x, %d; want %s", c.r, b, e, c.want)
		}
	}
}

// P7.1
func TestBuildAgainstTheLibrary(t *testing.T) {
	for _, r := range rights() {
		if b, e := Build(r); !bytes.Equal(b, whole(byte(r.Kind), r.Number, r.Data)) || e != api.OK {
			t.Errorf("Build(%v) = %x, %d", r, b, e)
		}
	}
}

// P7.2
func TestParsePlaces(t *testing.T) {
	b := whole(1, 7, []byte("data"))
	for _, at := range []int{math.MinInt, -17, -1, len(b) + 1, 1 << 20, math.MaxInt - 13, math.MaxInt} {
		if e := checkParse(t, b, at); e != api.ErrArg {
			t.Errorf("at %d: %d; want ErrArg", at, e)
		}
	}
	for at := 5; at <= len(b); at++ {
		if e := checkParse(t, b, at); e != api.ErrShort {
			t.Errorf("at %d: %d; want ErrShort", at, e)
		}
	}
	for at := range 5 {
		want := api.ErrForm
		if at == 0 {
			want = api.OK
		}
		if e := checkParse(t, b, at); e != want {
			t.Errorf("at %d: %d; want %d", at, e, want)
		}
	}
	for _, b := range [][]byte{nil, {}} {
		if e := checkParse(t, b, 0); e != api.ErrShort {
			t.Errorf("nothing at 0: %d; want ErrShort", e)
		}
		if e := checkParse(t, b, 1); e != api.ErrArg {
			t.Errorf("nothing at 1: %d; want ErrArg", e)
		}
	}
}

// P7.2: bytes that end ahead of the record's end, whatever room is behind them.
func TestParseShort(t *testing.T) {
	for _, r := range rights() {
		b := whole(byte(r.Kind), r.Number, r.Data)
		for _, n := range []int{0, 1, 8, 11, 12, 13, 14, len(b) - 5, len(b) - 2, len(b) - 1} {
			if n < 0 || n >= len(b) {
				continue
			}
			if e := checkParse(t, b[:n], 0); e != api.ErrShort {
				t.Errorf("%x: %d; want ErrShort", b[:n], e)
			}
		}
	}
}

// sealed is a head as it is told, with so many bytes behind it, and the right sum and commit of what it tells if there is room.
func sealed(letter, kind byte, number uint32, length, data int) []byte {
	b := whole(kind, number, make([]byte, data))
	b[0] = letter
	binary.LittleEndian.PutUint16(b[6:], uint16(length))
	if end := 8 + length; end+5 <= len(b) {
		binary.LittleEndian.PutUint32(b[end:], crc32.ChecksumIEEE(b[:end]))
		b[end+4] = 0
	}
	return b
}

// P7.2: which of several errors is told.
func TestParseOrder(t *testing.T) {
	for _, c := range []struct {
		what string
		b    []byte
		want api.Errno
	}{
		{"all is right", sealed('W', 1, 1, 3, 3), api.OK},
		{"all is right of a greatest one", sealed('W', 1, 1, 960, 960), api.OK},
		{"all is right of the other kind", sealed('W', 2, 1, 0, 0), api.OK},
		{"twelve bytes, another letter", sealed('w', 1, 1, 0, 0)[:12], api.ErrShort},
		{"another letter, too short for its length", sealed('w', 1, 1, 4, 3), api.ErrForm},
		{"a small letter", sealed('w', 1, 1, 3, 3), api.ErrForm},
		{"no letter", sealed(0, 1, 1, 3, 3), api.ErrForm},
		{"a letter of ones", sealed(255, 1, 1, 3, 3), api.ErrForm},
		{"kind 0", sealed('W', 0, 1, 0, 0), api.ErrForm},
		{"kind 3", sealed('W', 3, 1, 0, 0), api.ErrForm},
		{"kind 255", sealed('W', 255, 1, 0, 0), api.ErrForm},
		{"kind 0, too short", sealed('W', 0, 1, 4, 3), api.ErrForm},
		{"number 0", sealed('W', 1, 0, 3, 3), api.ErrForm},
		{"number 0 of the other kind", sealed('W', 2, 0, 0, 0), api.ErrForm},
		{"number 0, too short", sealed('W', 1, 0, 4, 3), api.ErrForm},
		{"the other kind with data", sealed('W', 2, 1, 3, 3), api.ErrForm},
		{"the other kind with data, too short", sealed('W', 2, 1, 4, 3), api.ErrForm},
		{"a length above the most", sealed('W', 1, 1, 961, 961), api.ErrForm},
		{"a length above the most, too short", sealed('W', 1, 1, 961, 3), api.ErrForm},
		{"the greatest length", sealed('W', 1, 1, 65535, 0), api.ErrForm},
		{"too short for its length", sealed('W', 1, 1, 4, 3), api.ErrShort},
		{"too short for the greatest one", sealed('W', 1, 1, 960, 959), api.ErrShort},
		{"too short, another sum", whole(1, 1, []byte("abc"))[:15], api.ErrShort},
		{"a length that is less", sealed('W', 1, 1, 2, 3), api.OK},
	} {
		if e := checkParse(t, c.b, 0); e != c.want {
			t.Errorf("%s: %d; want %d", c.what, e, c.want)
		}
	}
}

// P7.2: the sum is looked at ahead of the commit.
func TestParseSumAndCommit(t *testing.T) {
	for _, r := range rights() {
		b := whole(byte(r.Kind), r.Number, r.Data)
		for _, commit := range []byte{0, 1, 2, 0x57, 0x7f, 0x80, 0xfe, 0xff} {
			x := bytes.Clone(b)
			x[len(x)-1] = commit
			want := api.ErrNone
			if commit == 0 {
				want = api.OK
			}
			if e := checkParse(t, x, 0); e != want {
				t.Errorf("%x: %d; want %d", x, e, want)
			}
			x[len(x)-2] ^= 1
			if e := checkParse(t, x, 0); e != api.ErrSum {
				t.Errorf("%x: %d; want ErrSum", x, e)
			}
		}
	}
}

// P7.2: sums that are another one by their way: the highest byte first, of less than all that stands ahead, of more.
func TestParseOtherSums(t *testing.T) {
	good := whole(1, 258, []byte("data"))
	end := len(good) - 5
	sum := binary.LittleEndian.Uint32(good[end:])
	with := func(n uint32) []byte {
		return append(binary.LittleEndian.AppendUint32(bytes.Clone(good[:end]), n), 0)
	}
	turned := binary.BigEndian.Uint32(good[end:])
	for _, n := range []uint32{0, math.MaxUint32, ^sum, turned, sum + 1, crc32.ChecksumIEEE(good[1:end]), crc32.ChecksumIEEE(good[8:end]), crc32.ChecksumIEEE(good[:8])} {
		if e := checkParse(t, with(n), 0); e != api.ErrSum {
			t.Errorf("the sum %#x: %d; want ErrSum", n, e)
		}
	}
	if e := checkParse(t, with(sum), 0); e != api.OK {
		t.Error(e)
	}
}

// P7.2: each byte of a record, made each other one.
func TestParseEachByte(t *testing.T) {
	for _, r := range []api.Record{{Kind: 1, Number: 1}, {Kind: 2, Number: 0x01000000}, {Kind: 1, Number: 258, Data: []byte("hi")}, {Kind: 1, Number: math.MaxUint32, Data: make([]byte, 300)}} {
		good := whole(byte(r.Kind), r.Number, r.Data)
		for i := range good {
			for c := range 256 {
				b := append(bytes.Clone(good), noise(draw(), 20)...)
				b[i] = byte(c)
				if e := checkParse(t, b, 0); (e == api.OK) != (b[i] == good[i]) {
					t.Fatalf("%x with %d at %d: %d", good, c, i, e)
				}
			}
		}
	}
}

// P7.2, P7.4: bytes without a pattern behind heads of many kinds, at all places.
func TestParseAgainstTheModel(t *testing.T) {
	next := draw()
	told := map[api.Errno]int{}
	for range 4000 {
		kind, length := byte(next()>>9%4), int(next()>>9%24)
		b := sealed('W', kind, next()>>9%3, length, int(next()>>9%24))
		if next()>>9%2 == 0 {
			b[next()>>9%uint32(len(b))] ^= 1 << (next() >> 9 % 8)
		}
		b = slices.Concat(noise(next, int(next()>>9%4)), b, noise(next, int(next()>>9%4)))
		for at := -1; at <= len(b)+1; at++ {
			told[checkParse(t, b, at)]++
		}
	}
	for _, e := range []api.Errno{api.OK, api.ErrArg, api.ErrShort, api.ErrForm, api.ErrSum, api.ErrNone} {
		if told[e] == 0 {
			t.Errorf("%d was never told", e)
		}
	}
}

// P7.3
func TestBlank(t *testing.T) {
	for _, n := range []int{0, 1, 2, 3, 8, 13, 255, 256, 1024, 4096} {
		b := bytes.Repeat([]byte{255}, n)
		if !Blank(b) {
			t.Errorf("%d ones are not blank", n)
		}
		for _, i := range []int{0, 1, n / 2, n - 2, n - 1} {
			if i < 0 || i >= n {
				continue
			}
			for _, c := range []byte{0, 1, 0x57, 0x7f, 0x80, 0xbf, 0xfe} {
				b[i] = c
				if Blank(b) {
					t.Errorf("%d bytes with %d at %d are blank", n, c, i)
				}
			}
			b[i] = 255
		}
	}
	for c := range 256 {
		if Blank([]byte{byte(c)}) != (c == 255) {
			t.Errorf("byte %d", c)
		}
	}
	if !Blank(nil) || !Blank([]byte{}) {
		t.Error("nothing is not blank")
	}
	if room := []byte{255, 255, 0, 7}; !Blank(room[:2]) {
		t.Error("the room behind the bytes is none of theirs")
	}
}

// P7.4: whatever stands ahead and behind, other records, too.
func TestBuiltIsParsed(t *testing.T) {
	next := draw()
	other := whole(1, 77, []byte("W another one"))
	for _, r := range rights() {
		b, _ := Build(r)
		for _, ahead := range [][]byte{nil, {'W'}, {0}, {255}, noise(next, 9), other} {
			for _, behind := range [][]byte{nil, {'W'}, {0}, {255}, noise(next, 9), bytes.Repeat([]byte{255}, 40), other} {
				all := slices.Concat(ahead, b, behind)
				got, to, e := Parse(all, len(ahead))
				if !isSame(got, r) || to != len(ahead)+len(b) || e != api.OK {
					t.Errorf("%v behind %x, ahead of %x: %v, %d, %d", r, ahead, behind, got, to, e)
				}
			}
		}
	}
}

// P7.4: from record to record, each at the place behind the one ahead.
func TestParseGoesOn(t *testing.T) {
	l := rights()
	var b []byte
	for _, r := range l {
		one, _ := Build(r)
		b = append(b, one...)
	}
	at := 0
	for i, r := range l {
		got, to, e := Parse(b, at)
		if !isSame(got, r) || e != api.OK {
			t.Fatalf("record %d: %v, %d; want %v", i, got, e, r)
		}
		at = to
	}
	if _, to, e := Parse(b, at); at != len(b) || to != 0 || e != api.ErrShort {
		t.Errorf("at %d of %d: %d, %d", at, len(b), to, e)
	}
}

// P7.4: all commits that are not there yet, also where a part of its bits is cleared.
func TestNoCommitNoRecord(t *testing.T) {
	for _, r := range rights()[:40] {
		b, _ := Build(r)
		for c := 1; c < 256; c++ {
			b[len(b)-1] = byte(c)
			if got, to, e := Parse(b, 0); !isZero(got) || to != 0 || e != api.ErrNone {
				t.Errorf("%x: %v, %d, %d; want ErrNone alone", b, got, to, e)
			}
		}
	}
}

// P7.4: what a power that fails leaves on ones: whole bytes, a torn one, ones behind.
func TestTornIsNoRecord(t *testing.T) {
	for _, r := range []api.Record{{Kind: 1, Number: 1}, {Kind: 2, Number: 1 << 24}, {Kind: 1, Number: 0x04030201, Data: []byte("some data")}, {Kind: 1, Number: 9, Data: make([]byte, 300)}} {
		b, _ := Build(r)
		blank := bytes.Repeat([]byte{255}, 1024)
		for i := range b {
			for _, mask := range []byte{0, 1, 2, 4, 8, 16, 32, 64, 128, 0x0f, 0xf0, 0x55, 0xaa, 0x7f, 0xfe} {
				x := slices.Concat(b[:i], blank[i:])
				x[i] &= b[i] | ^mask
				if got, to, e := Parse(x, 0); !isZero(got) || to != 0 || e == api.OK {
					t.Errorf("%x torn at %d by %#x: %v, %d, %d", b, i, mask, got, to, e)
				}
			}
		}
	}
}

// turned is b with those bits turned that which has set, from bit at on, of each byte the lowest first.
func turned(b []byte, at int, which uint32) []byte {
	out := bytes.Clone(b)
	for i := range 32 {
		if which>>i&1 == 1 {
			out[(at+i)/8] ^= 1 << ((at + i) % 8)
		}
	}
	return out
}

// patterns have their lowest bit set: one bit, all pairs, all rows, and some without a pattern.
func patterns() []uint32 {
	l := []uint32{1, 0x04c11db7, 0xedb88321, 0xaaaaaaab, 0x55555555, 0x80000001, 0xffffffff}
	for i := 1; i < 32; i++ {
		l = append(l, 1|1<<i, 1<<i-1)
	}
	next := draw()
	for range 60 {
		l = append(l, next()|1)
	}
	return l
}

// P7.4: bits of data and sum, at all places, also across the border between them.
func TestTurnedBitsAreFound(t *testing.T) {
	next := draw()
	for _, n := range []int{0, 1, 2, 3, 4, 5, 8, 40} {
		for _, data := range [][]byte{noise(next, n), make([]byte, n), bytes.Repeat([]byte{255}, n)} {
			b, _ := Build(api.Record{Kind: 1, Number: 258, Data: data})
			first, behind := 8*8, 8*(len(b)-1)
			for at := first; at < behind; at++ {
				for _, p := range patterns() {
					if left := behind - at; left < 32 {
						p &= 1<<left - 1
					}
					x := turned(b, at, p)
					if got, to, e := Parse(x, 0); !isZero(got) || to != 0 || e != api.ErrSum {
						t.Fatalf("%x, %#x turned at bit %d: %v, %d, %d; want ErrSum alone", b, p, at, got, to, e)
					}
				}
			}
		}
	}
}

// R4: neither the lists that are handed in are changed, nor the room behind them.
func TestArgumentsAreLeft(t *testing.T) {
	record := whole(1, 258, []byte("some data"))
	all := slices.Concat(record, []byte("and room behind it"))
	for n := range len(all) + 1 {
		room := bytes.Clone(all)
		b := room[:n]
		Blank(b)
		for at := -1; at <= n+1; at++ {
			Parse(b, at)
		}
		for _, kind := range []int{0, 1, 2, 3} {
			r := api.Record{Kind: kind, Number: 1, Data: b}
			Right(r)
			Build(r)
		}
		if !bytes.Equal(room, all) {
			t.Errorf("length %d: the room is %q", n, room)
		}
	}
}

// fill writes a byte into all of a list's memory, spare room too.
func fill(b []byte, c byte) {
	b = b[:cap(b)]
	for i := range b {
		b[i] = c
	}
}

// R4: what is answered shares nothing with what was handed in, spare room too, nor with another answer.
func TestAnswersAreNewMemory(t *testing.T) {
	for _, data := range []string{"", "a", "some data"} {
		room := append([]byte(data), "room"...)
		built, _ := Build(api.Record{Kind: 1, Number: 7, Data: room[:len(data)]})
		want := whole(1, 7, []byte(data))
		fill(room, '.')
		again, _ := Build(api.Record{Kind: 1, Number: 7, Data: []byte(data)})
		if !bytes.Equal(built, want) {
			t.Errorf("Build: the answer became %x", built)
		}
		fill(built, '!')
		if bytes.IndexByte(room[:cap(room)], '!') >= 0 || !bytes.Equal(again, want) {
			t.Errorf("Build: the argument became %q, another answer %x", room, again)
		}

		room = append(bytes.Clone(want), "room"...)
		first, _, _ := Parse(room[:len(want)], 0)
		second, _, _ := Parse(room[:len(want)], 0)
		fill(first.Data, '!')
		if !bytes.Equal(room[:len(want)], want) || string(room[len(want):]) != "room" || string(second.Data) != data {
			t.Errorf("Parse: the argument became %x, another answer %q", room, second.Data)
		}
		fill(room, '.')
		if string(second.Data) != data {
			t.Errorf("Parse: the answer became %q", second.Data)
		}
	}
}

// R5: the same arguments have the same answer, whatever was called between.
func TestOneAnswer(t *testing.T) {
	for _, r := range rights() {
		b, e := Build(r)
		got, to, f := Parse(b, 0)
		Build(api.Record{Kind: 1, Number: 9, Data: []byte("between")})
		Parse([]byte("between all of that"), 3)
		again, g := Build(r)
		other, behind, h := Parse(b, 0)
		if !bytes.Equal(b, again) || e != g || !isSame(got, other) || to != behind || f != h {
			t.Errorf("%v: %x, then %x", r, b, again)
		}
	}
}

// The chapter's examples.
func TestExamples(t *testing.T) {
	b, e := Build(api.Record{Kind: api.KindFactory, Number: 1})
	if len(b) != 13 || hex.EncodeToString(b[:8]) != "5702010000000000" || b[12] != 0 || e != api.OK {
		t.Errorf("%x, %d", b, e)
	}
	if sum := binary.LittleEndian.Uint32(b[8:]); sum != crc32.ChecksumIEEE(b[:8]) {
		t.Errorf("%#x", sum)
	}
	if r, to, e := Parse(b, 0); !isSame(r, api.Record{Kind: api.KindFactory, Number: 1}) || to != 13 || e != api.OK {
		t.Error(r, to, e)
	}
	if r, to, e := Parse(b[:12], 0); !isZero(r) || to != 0 || e != api.ErrShort {
		t.Error(r, to, e)
	}
	b[12] = 255
	if r, to, e := Parse(b, 0); !isZero(r) || to != 0 || e != api.ErrNone {
		t.Error(r, to, e)
	}
	if b, e := Build(api.Record{Kind: api.KindFactory, Number: 0}); len(b) != 0 || e != api.ErrArg {
		t.Errorf("%x, %d", b, e)
	}
}
