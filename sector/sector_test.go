package sector

import (
	"bytes"
	"cmp"
	"encoding/binary"
	"hash/crc32"
	"math"
	"slices"
	"testing"

	"wheelhouse/api"
	"wheelhouse/record"
)

// draw answers numbers without a pattern, the same ones in each run.
func draw() func() uint32 {
	state := uint64(0x9e3779b97f4a7c15)
	return func() uint32 {
		state = state*6364136223846793005 + 1442695040888963407
		return uint32(state >> 32)
	}
}

// noise is n bytes without a pattern.
func noise(next func() uint32, n int) []byte {
	b := make([]byte, n)
	for i := range b {
		b[i] = byte(next() >> 7)
	}
	return b
}

// ones is n bytes that are erased.
func ones(n int) []byte {
	return bytes.Repeat([]byte{255}, n)
}

// whole is a record's bytes, laid down by a way that shares nothing with the project, whether or not it is right.
func whole(kind byte, number uint32, data []byte) []byte {
	b := []byte{'W', kind}
	b = binary.LittleEndian.AppendUint32(b, number)
	b = binary.LittleEndian.AppendUint16(b, uint16(len(data)))
	b = append(b, data...)
	b = binary.LittleEndian.AppendUint32(b, crc32.ChecksumIEEE(b))
	return append(b, 0)
}

// text is a record of a text.
func text(number uint32, s string) []byte {
	return whole(1, number, []byte(s))
}

// lay is bytes one behind the other, in new memory.
func lay(parts ...[]byte) []byte {
	return slices.Concat(parts...)
}

// begun is bytes, and ones behind them up to a sector's end.
func begun(parts ...[]byte) []byte {
	b := lay(parts...)
	return append(b, ones(api.SectorBytes-len(b))...)
}

// ahead is the record at the beginning of bytes, and how many it has of them; 0, if there is none.
func ahead(b []byte) (api.Record, int) {
	if len(b) < 13 || b[0] != 'W' {
		return api.Record{}, 0
	}
	kind, number, n := int(b[1]), binary.LittleEndian.Uint32(b[2:]), int(binary.LittleEndian.Uint16(b[6:]))
	isRight := number > 0 && (kind == 1 && n <= 960 || kind == 2 && n == 0)
	if !isRight || len(b) < 13+n || b[12+n] != 0 || binary.LittleEndian.Uint32(b[8+n:]) != crc32.ChecksumIEEE(b[:8+n]) {
		return api.Record{}, 0
	}
	return api.Record{Kind: kind, Number: number, Data: b[8 : 8+n]}, 13 + n
}

// model is what P8.1 asks of Of, word by word.
func model(b []byte) Look {
	var l Look
	for {
		r, n := ahead(b[l.End:])
		if n == 0 || l.Count > 0 && uint64(r.Number) != uint64(l.Last.Number)+1 {
			break
		}
		l = Look{Last: r, Count: l.Count + 1, End: l.End + n}
	}
	l.Clean = bytes.Count(b[l.End:], []byte{255}) == len(b)-l.End
	return l
}

func isSame(a, b Look) bool {
	return a.Count == b.Count && a.End == b.End && a.Clean == b.Clean && a.Last.Kind == b.Last.Kind && a.Last.Number == b.Last.Number && bytes.Equal(a.Last.Data, b.Last.Data)
}

// checkOf holds Of against the model.
func checkOf(t *testing.T, b []byte) Look {
	t.Helper()
	l := Of(b)
	if want := model(b); !isSame(l, want) {
		t.Fatalf("Of(%x) = %v; want %v", b, l, want)
	}
	return l
}

// checkLook holds Of against what is told of bytes.
func checkLook(t *testing.T, what string, b []byte, count int, last uint32, end int, isClean bool) {
	t.Helper()
	l := checkOf(t, b)
	if l.Count != count || l.Last.Number != last || l.End != end || l.Clean != isClean {
		t.Errorf("%s: %v; want %d, %d, %d, %t", what, l, count, last, end, isClean)
	}
}

// P8.1
func TestOfRecords(t *testing.T) {
	four, five, six := text(4, "a"), text(5, "bc"), text(6, "")
	factory, no := whole(2, 5, nil), whole(2, 0, nil)
	for _, c := range []struct {
		what    string
		b       []byte
		count   int
		last    uint32
		end     int
		isClean bool
	}{
		{"nothing", nil, 0, 0, 0, true},
		{"no bytes", []byte{}, 0, 0, 0, true},
		{"one of ones", ones(1), 0, 0, 0, true},
		{"ones", ones(1024), 0, 0, 0, true},
		{"noughts", make([]byte, 1024), 0, 0, 0, false},
		{"a record alone", four, 1, 4, 14, true},
		{"a record", begun(four), 1, 4, 14, true},
		{"two", begun(four, five), 2, 5, 29, true},
		{"three", begun(four, five, six), 3, 6, 42, true},
		{"both kinds", begun(four, factory, six), 3, 6, 40, true},
		{"a 7 behind", begun(four, five, []byte{7}), 2, 5, 29, false},
		{"a letter behind", begun(four, five, []byte{'W'}), 2, 5, 29, false},
		{"a 7 far behind", append(begun(four, five), 7), 2, 5, 29, false},
		{"the same number again", begun(five, text(5, "again")), 1, 5, 15, false},
		{"the same record again", begun(five, five), 1, 5, 15, false},
		{"a lower number", begun(five, four), 1, 5, 15, false},
		{"a number left out", begun(four, six), 1, 4, 14, false},
		{"a number left out, and the one left out", begun(four, six, five), 1, 4, 14, false},
		{"a number 0", begun(no), 0, 0, 0, false},
		{"a number 0 ahead", begun(no, text(1, "")), 0, 0, 0, false},
		{"a byte ahead", begun(ones(1), four), 0, 0, 0, false},
		{"a hole of ones", begun(four, ones(1), five), 1, 4, 14, false},
		{"a hole of noughts", begun(four, []byte{0}, five), 1, 4, 14, false},
		{"a hole of a sector's rest", lay(begun(four), five), 1, 4, 14, false},
		{"a kind that is none", begun(four, whole(3, 5, nil)), 1, 4, 14, false},
		{"the other kind with data", begun(four, whole(2, 5, []byte("a"))), 1, 4, 14, false},
		{"one of which a byte lacks", lay(four, five[:len(five)-1]), 1, 4, 14, false},
		{"one without its commit", begun(four, five[:len(five)-1]), 1, 4, 14, false},
		{"all of a sector", lay(text(1, string(make([]byte, 960))), text(2, string(make([]byte, 38)))), 2, 2, 1024, true},
	} {
		checkLook(t, c.what, c.b, c.count, c.last, c.end, c.isClean)
	}
}

// P8.1: the last one whole, with its data and kind, not the first one.
func TestOfLast(t *testing.T) {
	l := Of(begun(text(4, "four"), text(5, "five")))
	if l.Last.Kind != api.KindSnapshot || l.Last.Number != 5 || string(l.Last.Data) != "five" {
		t.Error(l)
	}
	l = Of(begun(text(4, "four"), whole(2, 5, nil)))
	if l.Last.Kind != api.KindFactory || l.Last.Number != 5 || len(l.Last.Data) != 0 {
		t.Error(l)
	}
	l = Of(begun(text(4, "four"), text(6, "six")))
	if l.Last.Number != 4 || string(l.Last.Data) != "four" {
		t.Error(l)
	}
	for _, b := range [][]byte{nil, ones(1024), begun(ones(1), text(4, "four"))} {
		if l := Of(b); l.Last.Kind != 0 || l.Last.Number != 0 || len(l.Last.Data) != 0 {
			t.Errorf("%x: %v", b, l)
		}
	}
}

// P8.1: of two records the second one is of the sector's if its number is one above, at each byte's end, too.
func TestOfNumbers(t *testing.T) {
	numbers := []uint32{1, 2, 3, 127, 128, 255, 256, 257, 65535, 65536, 1<<24 - 1, 1 << 24, 1<<31 - 1, 1 << 31, 1<<31 + 1, math.MaxUint32 - 1, math.MaxUint32}
	for _, first := range numbers {
		for _, second := range append(numbers, 0, first+1, first+256, first+257, first-1) {
			b := begun(text(first, "first"), text(second, "second"))
			if uint64(second) == uint64(first)+1 {
				checkLook(t, "the next one", b, 2, second, 37, true)
			} else {
				checkLook(t, "another one", b, 1, first, 18, false)
			}
		}
	}
}

// P8.1: behind the greatest number comes none, neither 0 nor 1.
func TestOfGreatestNumber(t *testing.T) {
	end := begun(text(math.MaxUint32-1, ""), text(math.MaxUint32, ""))
	checkLook(t, "the greatest two", end, 2, math.MaxUint32, 26, true)
	for _, n := range []uint32{0, 1, math.MaxUint32} {
		b := begun(text(math.MaxUint32-1, ""), text(math.MaxUint32, ""), text(n, ""))
		checkLook(t, "one behind the greatest", b, 2, math.MaxUint32, 26, false)
	}
}

// P8.1: from the bytes of each length on, from nothing up to more than a sector.
func TestOfLengths(t *testing.T) {
	next := draw()
	var b []byte
	for i := range uint32(9) {
		b = append(b, text(i+250, string(noise(next, int(i*i))))...)
	}
	b = append(b, ones(1200)...)
	for n := range len(b) + 1 {
		checkOf(t, b[:n])
	}
	checkLook(t, "more than a sector", b, 9, 258, len(b)-1200, true)
}

// P8.1: as many as a sector holds, and more of them in more bytes.
func TestOfMany(t *testing.T) {
	var b []byte
	for i := range 400 {
		b = append(b, text(uint32(i)+7, "")...)
		checkLook(t, "many", b, i+1, uint32(i)+7, 13*(i+1), true)
	}
	checkLook(t, "a sector's", b[:1024], 78, 84, 1014, false)
	checkLook(t, "a sector's, and ones", begun(b[:1014]), 78, 84, 1014, true)
}

// P8.1: one byte that is not of ones, wherever it stands behind the records.
func TestOfClean(t *testing.T) {
	for _, records := range [][]byte{nil, text(9, "nine"), lay(text(9, "nine"), text(10, "ten")), text(9, string(make([]byte, 960)))} {
		b := begun(records)
		count := checkOf(t, b).Count
		for at := len(records); at < len(b); at++ {
			for _, c := range []byte{0, 1, 0x57, 0x7f, 0x80, 0xfe} {
				b[at] = c
				if l := checkOf(t, b); l.Clean || l.Count != count || l.End != len(records) {
					t.Errorf("%d at %d: %v", c, at, l)
				}
			}
			b[at] = 255
		}
	}
	for c := range 256 {
		if Of([]byte{byte(c)}).Clean != (c == 255) {
			t.Error(c)
		}
	}
}

// P8.1: the room behind the bytes is none of theirs.
func TestOfLooksNotBehind(t *testing.T) {
	room := lay(text(4, "a"), text(5, "b"), []byte{7})
	checkLook(t, "another record behind", room[:14], 1, 4, 14, true)
	checkLook(t, "a 7 behind", room[:28], 2, 5, 28, true)
	checkLook(t, "the rest of a record behind", room[:27], 1, 4, 14, false)
}

// P8.1: each byte of a sector's records, made each other one.
func TestOfEachByte(t *testing.T) {
	good := lay(text(4, "four"), whole(2, 5, nil), text(6, "six"), ones(20))
	for i := range good {
		for c := range 256 {
			b := bytes.Clone(good)
			b[i] = byte(c)
			checkOf(t, b)
		}
	}
}

// P8.1: what a power that fails leaves of a record is none, and those ahead are there as they were.
func TestOfTorn(t *testing.T) {
	for _, records := range [][]byte{nil, text(9, "nine"), lay(text(9, "nine"), text(10, "ten"))} {
		before := Of(begun(records))
		r := text(before.Last.Number+1, "one more")
		for i := range r {
			for _, mask := range []byte{0, 1, 2, 4, 8, 16, 32, 64, 128, 0x0f, 0xf0, 0x55, 0xaa, 0xff} {
				torn := r[i] | ^mask
				b := begun(records, r[:i], []byte{torn})
				isWhole := i == len(r)-1 && torn == r[i]
				isUntouched := i == 0 && torn == 255
				l := checkOf(t, b)
				switch {
				case isWhole && (l.Count != before.Count+1 || string(l.Last.Data) != "one more" || !l.Clean):
					t.Errorf("whole: %v", l)
				case !isWhole && (l.Count != before.Count || l.Last.Number != before.Last.Number || l.Clean != isUntouched):
					t.Errorf("torn at %d by %#x: %v", i, mask, l)
				}
			}
		}
	}
}

// P8.1: rows of records of all kinds, some of them out of the row, some of them broken.
func TestOfAgainstTheModel(t *testing.T) {
	next := draw()
	below := func(n uint32) uint32 { return next() >> 9 % n }
	counts := map[int]int{}
	clean := 0
	for range 20000 {
		number := []uint32{0, 1, 2, 255, 65535, math.MaxUint32 - 3}[below(6)]
		var b []byte
		for range below(8) {
			b = append(b, whole(byte(1+below(9)/8), number, noise(next, int(below(2)*below(20))))...)
			number += []uint32{1, 1, 1, 1, 1, 1, 1, 1, 0, 2, 1 << 8, 1 << 31}[below(12)]
		}
		if len(b) > 0 && below(4) == 0 {
			b[below(uint32(len(b)))] ^= 1 << below(8)
		}
		b = append(b, ones(int(below(30)))...)
		if below(4) == 0 {
			b = append(b, noise(next, int(below(4)))...)
		}
		l := checkOf(t, b)
		counts[l.Count]++
		if l.Clean {
			clean++
		}
	}
	for n := range 8 {
		if counts[n] == 0 {
			t.Errorf("%d records were never told", n)
		}
	}
	if clean == 0 || clean == 20000 {
		t.Errorf("%d were clean", clean)
	}
}

// checkRoom asks of looks that are alike in all that Room hangs on.
func checkRoom(t *testing.T, end, data int, want bool) {
	t.Helper()
	if Room(Look{End: end, Clean: true}, data) != want {
		t.Errorf("%d behind %d: want %t", data, end, want)
	}
	if Room(Look{End: end}, data) {
		t.Errorf("%d behind %d, not clean", data, end)
	}
}

// P8.2: all ends on all data, about their limits, too.
func TestRoom(t *testing.T) {
	for end := -3; end <= 1027; end++ {
		for data := -3; data <= 963; data++ {
			checkRoom(t, end, data, end >= 0 && end <= 1024 && data >= 0 && data <= 960 && end+13+data <= 1024)
		}
	}
}

// P8.2
func TestRoomEdges(t *testing.T) {
	for _, c := range []struct {
		end, data int
		want      bool
	}{
		{0, 0, true},
		{0, 960, true},
		{0, 961, false},
		{51, 960, true},
		{52, 960, false},
		{50, 961, false},
		{1011, 0, true},
		{1012, 0, false},
		{1010, 1, true},
		{1011, 1, false},
		{1024, 0, false},
		{1024, -13, false},
		{1037, -26, false},
		{0, -1, false},
		{-1, 0, false},
		{-960, 960, false},
	} {
		checkRoom(t, c.end, c.data, c.want)
	}
	wild := []int{math.MinInt, math.MinInt + 13, math.MinInt + 1024, -1 << 32, 1 << 32, math.MaxInt - 1024, math.MaxInt - 13, math.MaxInt}
	for _, w := range wild {
		for _, n := range append(wild, -1, 0, 1, 13, 1024) {
			checkRoom(t, w, n, false)
			checkRoom(t, n, w, false)
		}
	}
}

// P8.2: just Clean and End are looked at.
func TestRoomHangsOnNoMore(t *testing.T) {
	for _, count := range []int{math.MinInt, -1, 0, 1, 2, math.MaxInt} {
		for _, r := range []api.Record{{}, {Kind: 1, Number: math.MaxUint32, Data: make([]byte, 2000)}} {
			l := Look{Last: r, Count: count, End: 500, Clean: true}
			if !Room(l, 511) || Room(l, 512) {
				t.Errorf("%d, %d", count, r.Number)
			}
		}
	}
}

// P8.2: where there is room a record is laid whole, and where there is none it isn't.
func TestRoomIsEnough(t *testing.T) {
	for n := range 948 {
		b := begun(text(7, string(make([]byte, n))))
		l := Of(b)
		most := 0
		for most < api.MaxPayload && Room(l, most+1) {
			most++
		}
		next, e := record.Build(api.Record{Kind: 1, Number: 8, Data: make([]byte, most)})
		if free := len(b) - l.End; e != api.OK || len(next) > free || len(next) < free && most < api.MaxPayload {
			t.Fatalf("%d bytes in %d free ones, %d", len(next), free, e)
		}
		copy(b[l.End:], next)
		checkLook(t, "laid", b, 2, 8, l.End+len(next), true)
	}
}

// look is one of a sector whose last record has that number.
func look(count int, number uint32) Look {
	return Look{Count: count, Last: api.Record{Kind: 1, Number: number}}
}

// P8.3
func TestNewest(t *testing.T) {
	empty, broken := Look{Clean: true}, Look{}
	top := look(1, math.MaxUint32)
	for i, c := range []struct {
		l    []Look
		want int
		ok   bool
	}{
		{nil, 0, false},
		{[]Look{}, 0, false},
		{[]Look{empty}, 0, false},
		{[]Look{empty, broken, empty}, 0, false},
		{[]Look{look(1, 5)}, 0, true},
		{[]Look{empty, look(1, 5)}, 1, true},
		{[]Look{empty, empty, look(1, 1)}, 2, true},
		{[]Look{look(1, 4), look(1, 5)}, 1, true},
		{[]Look{look(1, 5), look(1, 4)}, 0, true},
		{[]Look{look(9, 4), look(1, 5), look(8, 3)}, 1, true},
		{[]Look{look(1, 5), look(1, 5)}, 0, true},
		{[]Look{look(1, 4), look(1, 5), look(2, 5), look(1, 5)}, 1, true},
		{[]Look{empty, top, look(1, 1), top}, 1, true},
		{[]Look{look(1, 1), top}, 1, true},
		{[]Look{look(1, math.MaxInt32), look(1, 1<<31)}, 1, true},
		{[]Look{look(1, 1<<31), look(1, math.MaxInt32)}, 0, true},
		{[]Look{look(1, 256), look(1, 255)}, 0, true},
		{[]Look{look(1, 1), look(0, 9)}, 0, true},
		{[]Look{look(0, 9), look(1, 1)}, 1, true},
		{[]Look{look(-1, 9), look(1, 1), look(math.MinInt, 9)}, 1, true},
		{[]Look{look(-1, 9), look(0, 9)}, 0, false},
		{[]Look{empty, look(1, 0)}, 1, true},
		{[]Look{look(1, 0), look(1, 0)}, 0, true},
		{[]Look{look(1, 0), look(1, 1)}, 1, true},
		{[]Look{look(math.MaxInt, 2), look(1, 3)}, 1, true},
	} {
		if k, ok := Newest(c.l); k != c.want || ok != c.ok {
			t.Errorf("%d: %d, %t; want %d, %t", i, k, ok, c.want, c.ok)
		}
	}
}

// choice is one of those among which Next chooses.
type choice struct {
	sector, wear int
}

// newest is P8.3 by a way of its own: the number of the sector, -1, if there is none.
func newest(l []Look) int {
	best := -1
	for i := len(l) - 1; i >= 0; i-- {
		if l[i].Count > 0 && (best < 0 || l[i].Last.Number >= l[best].Last.Number) {
			best = i
		}
	}
	return best
}

// following is P8.4 by a way of its own: all that may be chosen, sorted.
func following(l []Look, wear, left []int) (int, bool) {
	wear = append(slices.Clone(wear), make([]int, len(l))...)
	left = append(slices.Clone(left), make([]int, len(l))...)
	var all []choice
	for i, s := range l {
		if i != newest(l) && (s.Count == 0 && s.Clean || left[i] > 0) {
			all = append(all, choice{i, wear[i]})
		}
	}
	slices.SortStableFunc(all, func(a, b choice) int { return cmp.Compare(a.wear, b.wear) })
	if len(all) == 0 {
		return 0, false
	}
	return all[0].sector, true
}

// P8.4
func TestNext(t *testing.T) {
	empty, broken := Look{Clean: true}, Look{}
	four, five, six := look(2, 4), look(1, 5), look(3, 6)
	type nums = []int
	for i, c := range []struct {
		l          []Look
		wear, left nums
		want       int
		ok         bool
	}{
		{nil, nil, nil, 0, false},
		{[]Look{}, nums{1}, nums{1}, 0, false},
		{[]Look{five}, nums{0}, nums{9}, 0, false},
		{[]Look{empty}, nil, nil, 0, true},
		{[]Look{broken}, nil, nil, 0, false},
		{[]Look{broken}, nums{7}, nums{1}, 0, true},
		{[]Look{empty, empty, five}, nums{3, 2, 0}, nil, 1, true},
		{[]Look{empty, empty, five}, nums{2, 3, 0}, nil, 0, true},
		{[]Look{empty, empty, five}, nums{2, 2, 0}, nil, 0, true},
		{[]Look{five, empty, empty}, nums{0, 2, 2}, nil, 1, true},
		{[]Look{five, four, empty}, nums{0, 1, 2}, nums{9, 9, 9}, 1, true},
		{[]Look{five, four, empty}, nums{0, 1, 1}, nums{9, 9, 9}, 1, true},
		{[]Look{five, four, empty}, nums{0, 2, 1}, nums{9, 9, 9}, 2, true},
		{[]Look{five, four, empty}, nums{0, 1, 2}, nums{9, 0, 0}, 2, true},
		{[]Look{five, four, empty}, nums{0, 1, 2}, nums{9, -1, -1}, 2, true},
		{[]Look{five, four, broken}, nums{0, 1, 2}, nums{9, 0, 0}, 0, false},
		{[]Look{five, four, broken}, nums{0, 1, 2}, nums{9, math.MinInt, -1}, 0, false},
		{[]Look{five, four, broken}, nums{0, 1, 2}, nums{9, 0, 1}, 2, true},
		{[]Look{five, four, broken}, nums{0, 1, 1}, nums{9, 1, 1}, 1, true},
		{[]Look{four, six, five}, nums{9, 0, 8}, nums{1, 1, 1}, 2, true},
		{[]Look{five, five, five}, nums{0, 2, 1}, nums{1, 1, 1}, 2, true},
		{[]Look{five, five, five}, nums{0, 1, 1}, nums{1, 1, 1}, 1, true},
		{[]Look{broken, broken, broken}, nums{3, 1, 2}, nums{1, 1, 1}, 1, true},
		{[]Look{empty, broken, broken}, nums{5, 4}, nums{0, 1, 1}, 2, true},
		{[]Look{empty, broken, empty}, nums{5, 4}, nums{0, 1}, 2, true},
		{[]Look{empty, empty, five}, nums{1}, nil, 1, true},
		{[]Look{empty, empty, five}, nums{0}, nil, 0, true},
		{[]Look{empty, empty, five}, nums{-1}, nil, 0, true},
		{[]Look{four, broken, five}, nil, nums{0, 1}, 1, true},
		{[]Look{four, broken, five}, nil, nums{0}, 0, false},
		{[]Look{four, broken, five}, nums{0, 0, 0, -9}, nums{0, 0, 0, 9}, 0, false},
		{[]Look{four, five, broken}, nums{math.MaxInt, 0, math.MaxInt}, nums{1, 1, 1}, 0, true},
		{[]Look{four, five, broken}, nums{math.MaxInt, 0, math.MinInt}, nums{1, 1, math.MaxInt}, 2, true},
		{[]Look{four, five, broken}, nums{0, 0, math.MinInt}, nums{1, 1, 1}, 2, true},
	} {
		if k, ok := Next(c.l, c.wear, c.left); k != c.want || ok != c.ok {
			t.Errorf("%d: %d, %t; want %d, %t", i, k, ok, c.want, c.ok)
		}
	}
}

// P8.4: clean from the first byte on is a Count of 0, and Clean, no less and no more.
func TestNextUnused(t *testing.T) {
	five := look(1, 5)
	for _, c := range []struct {
		l    Look
		want bool
	}{
		{Look{Clean: true}, true},
		{Look{Clean: true, End: 9}, true},
		{Look{Clean: true, Last: api.Record{Kind: 1, Number: 9}}, true},
		{Look{}, false},
		{Look{Clean: true, Count: 1}, false},
		{Look{Clean: true, Count: -1}, false},
		{Look{Count: 1}, false},
	} {
		if k, ok := Next([]Look{five, c.l}, nil, nil); ok != c.want || ok && k != 1 {
			t.Errorf("%v: %d, %t", c.l, k, ok)
		}
		if k, ok := Next([]Look{five, c.l}, nil, []int{0, 1}); k != 1 || !ok {
			t.Errorf("%v, which may be erased: %d, %t", c.l, k, ok)
		}
	}
}

// P8.3, P8.4: sectors without a pattern, with lists that are shorter, longer and as long.
func TestChoicesAgainstTheModel(t *testing.T) {
	next := draw()
	below := func(n uint32) int { return int(next() >> 9 % n) }
	told := map[int]int{}
	for range 100000 {
		l := make([]Look, below(9))
		for i := range l {
			l[i] = Look{Count: below(4) - 1, Clean: below(3) > 0, End: below(3), Last: api.Record{Kind: 1, Number: uint32(below(5))}}
		}
		wear, left := make([]int, below(10)), make([]int, below(10))
		for i := range wear {
			wear[i] = below(5) - 1
		}
		for i := range left {
			left[i] = below(4) - 1
		}
		want := newest(l)
		if k, ok := Newest(l); ok != (want >= 0) || k != max(want, 0) {
			t.Fatalf("Newest(%v) = %d, %t; want %d", l, k, ok, want)
		}
		k, ok := Next(l, wear, left)
		if best, isAny := following(l, wear, left); k != best || ok != isAny {
			t.Fatalf("Next(%v, %v, %v) = %d, %t; want %d, %t", l, wear, left, k, ok, best, isAny)
		}
		if !ok {
			k = -1
		}
		told[k]++
	}
	for k := -1; k < 8; k++ {
		if told[k] == 0 {
			t.Errorf("Next never told %d", k)
		}
	}
}

// P8.5: records in a row, from any number on, with anything behind them that is no record of the next number.
func TestLaidRecordsAreTheSectors(t *testing.T) {
	next := draw()
	for _, first := range []uint32{1, 2, 255, 65530, 1<<31 - 3, math.MaxUint32 - 7} {
		var b []byte
		var last api.Record
		for i := range 8 {
			last = api.Record{Kind: api.KindSnapshot, Number: first + uint32(i), Data: noise(next, i*i)}
			if i%3 == 2 {
				last = api.Record{Kind: api.KindFactory, Number: last.Number}
			}
			built, _ := record.Build(last)
			b = append(b, built...)
			n := last.Number
			for _, behind := range [][]byte{nil, ones(1), ones(500), {'W'}, {0}, noise(next, 40), built, text(n, "again"), text(n+2, "left out"), text(n-1, "back"), text(1, "one"), text(n+1, "torn")[:16], lay([]byte{'w'}, text(n+1, ""))} {
				l := checkOf(t, lay(b, behind))
				want := Look{Last: last, Count: i + 1, End: len(b), Clean: bytes.Count(behind, []byte{255}) == len(behind)}
				if !isSame(l, want) {
					t.Errorf("%x behind %d: %v; want %v", behind, n, l, want)
				}
			}
		}
	}
}

// P8.4, P8.5: a row of records laid from sector to sector, as a journal would.
func TestRowFromSectorToSector(t *testing.T) {
	sectors := [][]byte{ones(1024), ones(1024), ones(1024)}
	wear := make([]int, 3)
	looks := func() []Look {
		var l []Look
		for _, b := range sectors {
			l = append(l, checkOf(t, b))
		}
		return l
	}
	for n := range uint32(300) {
		l := looks()
		r := text(n+1, string(make([]byte, n*7%400)))
		k, ok := Newest(l)
		if ok != (n > 0) || ok && l[k].Last.Number != n {
			t.Fatalf("behind %d: %d, %t, %v", n, k, ok, l)
		}
		if !ok || !Room(l[k], len(r)-record.Extra) {
			if k, ok = Next(l, wear, []int{1, 1, 1}); !ok {
				t.Fatalf("behind %d: no sector", n)
			}
			if l[k].Count > 0 {
				sectors[k] = ones(1024)
				wear[k]++
				l = looks()
			}
		}
		copy(sectors[k][l[k].End:], r)
	}
	if slices.Max(wear)-slices.Min(wear) > 2 || slices.Min(wear) == 0 {
		t.Error(wear)
	}
}

// R4: neither the lists that are handed in are changed, nor those within, nor the room behind them.
func TestArgumentsAreLeft(t *testing.T) {
	all := lay(text(4, "four"), text(5, "five"), ones(3), []byte("and room behind it"))
	for n := range len(all) + 1 {
		room := bytes.Clone(all)
		Of(room[:n])
		if !bytes.Equal(room, all) {
			t.Errorf("length %d: the room is %x", n, room)
		}
	}
	for n := range 4 {
		data := []byte("data")
		l := []Look{look(1, 5), {Clean: true}, {Count: 2, Last: api.Record{Kind: 1, Number: 7, Data: data[:2]}}, look(1, 9)}
		before := slices.Clone(l)
		wear, left := []int{3, 1, 2, 9}, []int{1, 0, 1, 9}
		Newest(l[:n])
		Next(l[:n], wear[:n], left[:n])
		Room(l[2], 3)
		if !slices.EqualFunc(l, before, isSame) || string(data) != "data" || !slices.Equal(wear, []int{3, 1, 2, 9}) || !slices.Equal(left, []int{1, 0, 1, 9}) {
			t.Errorf("%d: %v, %q, %v, %v", n, l, data, wear, left)
		}
	}
}

// P8.3, P8.4: the room behind the lists is none of theirs.
func TestChoicesLookNotBehind(t *testing.T) {
	l := []Look{look(1, 5), {}, {Clean: true}, look(1, 9)}
	if k, ok := Newest(l[:2]); k != 0 || !ok {
		t.Error(k, ok)
	}
	if k, ok := Next(l[:2], nil, nil); k != 0 || ok {
		t.Error(k, ok)
	}
	wear, left := []int{0, 4, 3}, []int{0, 0, 0}
	if k, ok := Next([]Look{look(1, 5), {Clean: true}, {Clean: true}}, wear[:2], left[:0]); k != 2 || !ok {
		t.Error(k, ok)
	}
	if k, ok := Next([]Look{look(1, 5), {}}, nil, []int{0, 1}[:1]); k != 0 || ok {
		t.Error(k, ok)
	}
}

// fill writes a byte into all of a list's memory, spare room too.
func fill(b []byte, c byte) {
	b = b[:cap(b)]
	for i := range b {
		b[i] = c
	}
}

// R4: what is answered shares nothing with what was handed in, spare room too, nor with another answer.
func TestAnswersAreNewMemory(t *testing.T) {
	for _, data := range []string{"", "a", "some data"} {
		want := lay(text(4, "four"), text(5, data), ones(9))
		room := append(bytes.Clone(want), "room"...)
		first, second := Of(room[:len(want)]), Of(room[:len(want)])
		fill(first.Last.Data, '!')
		if !bytes.Equal(room[:len(want)], want) || string(room[len(want):]) != "room" || string(second.Last.Data) != data {
			t.Errorf("the argument became %x, another answer %q", room, second.Last.Data)
		}
		fill(room, '.')
		if string(second.Last.Data) != data {
			t.Errorf("the answer became %q", second.Last.Data)
		}
	}
}

// R5: the same arguments have the same answer, whatever was called between.
func TestOneAnswer(t *testing.T) {
	next := draw()
	for range 200 {
		b := begun(text(4, string(noise(next, 5))), text(5, string(noise(next, 9))))
		l := Of(b)
		list, wear, left := []Look{{Clean: true}, l, {}}, []int{2, 0, 1}, []int{0, 0, 1}
		k, ok := Next(list, wear, left)
		Of(noise(next, 50))
		Next([]Look{l, {}}, left, wear)
		Newest([]Look{l, l})
		if other := Of(b); !isSame(l, other) {
			t.Errorf("%v, then %v", l, other)
		}
		if other, is := Next(list, wear, left); other != k || is != ok || k != 2 {
			t.Errorf("%d, then %d", k, other)
		}
	}
}

// The chapter's examples.
func TestExamples(t *testing.T) {
	if l := Of(ones(1024)); l.Count != 0 || l.End != 0 || !l.Clean {
		t.Error(l)
	}
	four, _ := record.Build(api.Record{Kind: api.KindSnapshot, Number: 4, Data: []byte("4")})
	five, _ := record.Build(api.Record{Kind: api.KindFactory, Number: 5})
	if l := Of(begun(four, five)); l.Count != 2 || l.Last.Number != 5 || !l.Clean {
		t.Error(l)
	}
	if l := Of(begun(four, five, []byte{7})); l.Count != 2 || l.Last.Number != 5 || l.Clean {
		t.Error(l)
	}
	empty := Of(ones(1024))
	if k, ok := Next([]Look{empty, empty, Of(begun(four, five))}, []int{3, 2, 1}, []int{0, 0, 0}); k != 1 || !ok {
		t.Error(k, ok)
	}
}
