package journal

import (
	"bytes"
	"encoding/binary"
	"fmt"
	"hash/crc32"
	"math"
	"slices"
	"testing"

	"wheelhouse/api"
	"wheelhouse/flash"
)

// size is a sector's bytes, written out, so that it hangs on nothing of the project.
const size = 1024

const (
	snapshot = api.KindSnapshot
	factory  = api.KindFactory
)

// draw hands out numbers below n, without a pattern, and the same ones in each run.
func draw() func(n int) int {
	state := uint64(0x9e3779b97f4a7c15)
	return func(n int) int {
		state = state*6364136223846793005 + 1442695040888963407
		return int(state>>33) % n
	}
}

// noise is n bytes without a pattern.
func noise(next func(n int) int, n int) []byte {
	b := make([]byte, n)
	for i := range b {
		b[i] = byte(next(256))
	}
	return b
}

// ones is n bytes that are erased.
func ones(n int) []byte {
	return bytes.Repeat([]byte{255}, n)
}

// whole is a record's bytes, laid down by a way that shares nothing with the project, whether or not it is right.
func whole(kind byte, number uint32, data []byte) []byte {
	b := []byte{'W', kind}
	b = binary.LittleEndian.AppendUint32(b, number)
	b = binary.LittleEndian.AppendUint16(b, uint16(len(data)))
	b = append(b, data...)
	b = binary.LittleEndian.AppendUint32(b, crc32.ChecksumIEEE(b))
	return append(b, 0)
}

// text is a record of a text.
func text(number uint32, s string) []byte {
	return whole(1, number, []byte(s))
}

// begun is a sector of bytes, and ones behind them.
func begun(parts ...[]byte) []byte {
	b := slices.Concat(parts...)
	return append(b, ones(size-len(b))...)
}

// flashOf is a flash of sectors that can be erased often.
func flashOf(sectors ...[]byte) *flash.Flash {
	return flash.Of(slices.Concat(sectors...), 1000)
}

// view is what a sector holds, by a way that shares nothing with the project.
type view struct {
	last    api.Record
	count   int
	end     int
	isClean bool
}

func viewOf(b []byte) view {
	var v view
	for {
		rest := b[v.end:]
		if len(rest) < 13 || rest[0] != 'W' {
			break
		}
		kind, number, n := int(rest[1]), binary.LittleEndian.Uint32(rest[2:]), int(binary.LittleEndian.Uint16(rest[6:]))
		isRight := number > 0 && (kind == 1 && n <= 960 || kind == 2 && n == 0)
		if !isRight || len(rest) < 13+n || rest[12+n] != 0 || binary.LittleEndian.Uint32(rest[8+n:]) != crc32.ChecksumIEEE(rest[:8+n]) {
			break
		}
		if v.count > 0 && uint64(number) != uint64(v.last.Number)+1 {
			break
		}
		v.last, v.end = api.Record{Kind: kind, Number: number, Data: bytes.Clone(rest[8 : 8+n])}, v.end+13+n
		v.count++
	}
	v.isClean = bytes.Count(b[v.end:], []byte{255}) == size-v.end
	return v
}

// model is a journal by the chapter's words, on a flash of its own.
type model struct {
	f     *flash.Flash
	views []view
	at    int
	isAny bool
	isOff bool
}

func modelOf(f *flash.Flash) *model {
	m := &model{f: f}
	b := f.Bytes()
	for k := range len(b) / size {
		v := viewOf(b[k*size : (k+1)*size])
		m.views = append(m.views, v)
		if v.count > 0 && (!m.isAny || v.last.Number > m.views[m.at].last.Number) {
			m.at, m.isAny = k, true
		}
	}
	return m
}

func (m *model) last() api.Record {
	if !m.isAny {
		return api.Record{}
	}
	return m.views[m.at].last
}

// begin is the sector that is begun next, or -1.
func (m *model) begin() int {
	best := -1
	for k, v := range m.views {
		isFree := v.count == 0 && v.isClean || m.f.Left(k) > 0
		isNewest := m.isAny && k == m.at
		if isFree && !isNewest && (best < 0 || m.f.Worn(k) < m.f.Worn(best)) {
			best = k
		}
	}
	return best
}

// append tells what is answered, and how many operations it takes at most.
func (m *model) append(kind int, data []byte) (api.Errno, int) {
	last := m.last()
	switch {
	case m.isOff || !m.f.On():
		m.isOff = true
		return api.ErrOff, 0
	case last.Number == math.MaxUint32:
		return api.ErrFull, 0
	case kind != 1 && kind != 2 || kind == 2 && len(data) > 0:
		return api.ErrArg, 0
	case len(data) > 960:
		return api.ErrBig, 0
	}
	b := whole(byte(kind), last.Number+1, data)
	most := len(b)
	k, at := m.at, 0
	if v := m.views[m.at]; m.isAny && v.isClean && v.end+len(b) <= size {
		at = v.end
	} else {
		if k = m.begin(); k < 0 {
			return api.ErrWorn, 0
		}
		if v := m.views[k]; v.count > 0 || !v.isClean {
			most++
			if m.f.Erase(k) != api.OK {
				m.isOff = true
				return api.ErrOff, most
			}
		}
	}
	if m.f.Program(k*size+at, b) != api.OK {
		m.isOff = true
		return api.ErrOff, most
	}
	*m = *modelOf(m.f)
	return api.OK, most
}

// checkTold holds what a journal tells against a record and its sector; a record of the number 0 is none.
func checkTold(t *testing.T, what string, j *Journal, want api.Record, at int) {
	t.Helper()
	r, ok := j.Last()
	if ok != (want.Number > 0) || r.Kind != want.Kind || r.Number != want.Number || !bytes.Equal(r.Data, want.Data) || j.At() != at {
		t.Fatalf("%s: Last {%d %d %q}, %t, At %d; want {%d %d %q}, %d", what, r.Kind, r.Number, r.Data, ok, j.At(), want.Kind, want.Number, want.Data, at)
	}
}

// checkFlash holds a flash against another one.
func checkFlash(t *testing.T, what string, f, want *flash.Flash) {
	t.Helper()
	if f.On() != want.On() || f.Ops() != want.Ops() || f.Sectors() != want.Sectors() {
		t.Fatalf("%s: On %t, Ops %d, Sectors %d; want %t, %d, %d", what, f.On(), f.Ops(), f.Sectors(), want.On(), want.Ops(), want.Sectors())
	}
	for k := range f.Sectors() {
		if f.Worn(k) != want.Worn(k) || f.Left(k) != want.Left(k) {
			t.Fatalf("%s: sector %d: Worn %d, Left %d; want %d, %d", what, k, f.Worn(k), f.Left(k), want.Worn(k), want.Left(k))
		}
	}
	if b, c := f.Bytes(), want.Bytes(); !bytes.Equal(b, c) {
		for i := range b {
			if b[i] != c[i] {
				t.Fatalf("%s: byte %d is %02x; want %02x", what, i, b[i], c[i])
			}
		}
	}
}

// opened is a journal on a flash, held against the model; nothing is written for it.
func opened(t *testing.T, what string, f *flash.Flash) *Journal {
	t.Helper()
	was := f.Copy()
	j, e := Open(f)
	if e != api.OK || j == nil {
		t.Fatalf("%s: Open: %d", what, e)
	}
	checkFlash(t, what+": Open", f, was)
	m := modelOf(was)
	checkTold(t, what+": Open", j, m.last(), m.at)
	return j
}

// checkAppend holds an Append, and all that is to be seen behind it, against the model.
func checkAppend(t *testing.T, what string, j *Journal, f *flash.Flash, m *model, kind int, data []byte) api.Errno {
	t.Helper()
	ops, worn := f.Ops(), total(f)
	told, at := m.last(), m.at
	want, most := m.append(kind, data)
	if e := j.Append(kind, data); e != want {
		t.Fatalf("%s: Append(%d, %d bytes) = %d; want %d", what, kind, len(data), e, want)
	}
	checkFlash(t, what, f, m.f)
	checkTold(t, what, j, m.last(), m.at)
	if want != api.OK {
		checkTold(t, what, j, told, at)
	}
	// P9.4
	if f.Ops()-ops > most || total(f)-worn > 1 {
		t.Fatalf("%s: %d operations and %d erasings; at most %d and 1", what, f.Ops()-ops, total(f)-worn, most)
	}
	return want
}

// total is how often a flash's sectors were erased in all.
func total(f *flash.Flash) int {
	n := 0
	for k := range f.Sectors() {
		n += f.Worn(k)
	}
	return n
}

// spread is how much the wear of a flash's sectors differs.
func spread(f *flash.Flash) int {
	least, most := math.MaxInt, 0
	for k := range f.Sectors() {
		least, most = min(least, f.Worn(k)), max(most, f.Worn(k))
	}
	return most - least
}

// want holds an error against what it is to be.
func want(t *testing.T, what string, e, is api.Errno) {
	t.Helper()
	if e != is {
		t.Errorf("%s: %d; want %d", what, e, is)
	}
}

// P9.1
func TestOpenErrors(t *testing.T) {
	off := func(f *flash.Flash) *flash.Flash {
		f.Cut(0, 0)
		f.Program(0, []byte{0})
		return f
	}
	for _, c := range []struct {
		what string
		f    *flash.Flash
		want api.Errno
	}{
		{"nil", nil, api.ErrNil},
		{"an empty one", &flash.Flash{}, api.ErrOff},
		{"one sector", flash.New(1, 9), api.ErrRange},
		{"two sectors", flash.New(2, 9), api.ErrRange},
		{"two sectors with records", flashOf(begun(text(1, "a")), begun(text(2, "b"))), api.ErrRange},
		{"off", off(flash.New(3, 9)), api.ErrOff},
		{"off, and two sectors", off(flash.New(2, 9)), api.ErrOff},
		{"off, with records", off(flashOf(begun(text(1, "a")), ones(size), ones(size))), api.ErrOff},
	} {
		was := c.f.Copy()
		j, e := Open(c.f)
		want(t, c.what, e, c.want)
		if j != nil {
			t.Errorf("%s: there is a journal beside an error", c.what)
		}
		if c.f.Len() > 0 {
			checkFlash(t, c.what, c.f, was)
		}
	}
	f := off(flash.New(3, 9))
	f.Start()
	opened(t, "on again", f)
}

// P9.1: of all numbers of sectors that can be, the last record in each of them.
func TestOpenOfAllSectors(t *testing.T) {
	for n := 3; n <= 8; n++ {
		opened(t, "empty", flash.New(n, 1))
		opened(t, "noughts", flash.Of(make([]byte, n*size), 1))
		for k := range n {
			var l [][]byte
			for i := range n {
				l = append(l, begun(text(uint32(10*i+1), "other"), text(uint32(10*i+2), "one more")))
			}
			l[k] = begun(text(98, "ahead"), text(99, "the last"))
			j := opened(t, "in each", flashOf(l...))
			checkTold(t, "in each", j, api.Record{Kind: snapshot, Number: 99, Data: []byte("the last")}, k)
			for i := range n {
				if i != k {
					l[i] = ones(size)
				}
			}
			j = opened(t, "alone", flashOf(l...))
			checkTold(t, "alone", j, api.Record{Kind: snapshot, Number: 99, Data: []byte("the last")}, k)
		}
	}
}

// P9.1
func TestLastAndAt(t *testing.T) {
	empty := ones(size)
	torn := begun(text(8, "eight"), text(9, "torn")[:16])
	for _, c := range []struct {
		what    string
		sectors [][]byte
		want    api.Record
		at      int
	}{
		{"none", [][]byte{empty, empty, empty}, api.Record{}, 0},
		{"none but noughts", [][]byte{make([]byte, size), empty, empty}, api.Record{}, 0},
		{"a record that is no sector's first", [][]byte{empty, begun(ones(1), text(4, "four")), empty}, api.Record{}, 0},
		{"a factory's", [][]byte{empty, begun(text(4, "four"), whole(2, 5, nil)), empty}, api.Record{Kind: factory, Number: 5}, 1},
		{"no data", [][]byte{empty, empty, begun(text(4, ""))}, api.Record{Kind: snapshot, Number: 4}, 2},
		{"the greatest number", [][]byte{begun(text(math.MaxUint32, "top")), begun(text(1, "one")), empty}, api.Record{Kind: snapshot, Number: math.MaxUint32, Data: []byte("top")}, 0},
		{"one that is torn", [][]byte{empty, torn, begun(text(7, "seven"))}, api.Record{Kind: snapshot, Number: 8, Data: []byte("eight")}, 1},
		{"one out of the row", [][]byte{empty, begun(text(7, "seven"), text(9, "nine")), begun(text(8, "eight"))}, api.Record{Kind: snapshot, Number: 8, Data: []byte("eight")}, 2},
		{"alike", [][]byte{empty, begun(text(7, "seven")), begun(text(7, "again"))}, api.Record{Kind: snapshot, Number: 7, Data: []byte("seven")}, 1},
	} {
		checkTold(t, c.what, opened(t, c.what, flashOf(c.sectors...)), c.want, c.at)
	}
}

// P9.2: the first of the errors that apply; none of them changes anything (R2).
func TestAppendErrors(t *testing.T) {
	some, big := []byte("a"), make([]byte, 961)
	full := [][]byte{begun(text(math.MaxUint32, "full")), ones(size), ones(size)}
	worn := [][]byte{begun(text(5, string(make([]byte, 960)))), make([]byte, size), make([]byte, size)}
	for _, c := range []struct {
		what    string
		sectors [][]byte
		isWorn  bool
		isOff   bool
		kind    int
		data    []byte
		want    api.Errno
	}{
		{"off, and all else", [][]byte{full[0], worn[1], worn[1]}, true, true, 3, big, api.ErrOff},
		{"off", full[1:], false, true, snapshot, some, api.ErrOff},
		{"full, and all else", [][]byte{full[0], worn[1], worn[1]}, true, false, 3, big, api.ErrFull},
		{"full", full, false, false, snapshot, nil, api.ErrFull},
		{"full, a factory's", full, false, false, factory, nil, api.ErrFull},
		{"full in another sector", [][]byte{full[1], full[1], full[0]}, false, false, snapshot, nil, api.ErrFull},
		{"no kind, and all behind", worn, true, false, 0, big, api.ErrArg},
		{"a kind below 0", worn, true, false, -1, nil, api.ErrArg},
		{"a kind above", worn, true, false, 3, nil, api.ErrArg},
		{"a kind far above", worn, true, false, 257, nil, api.ErrArg},
		{"a kind with its low bits right", worn, true, false, 1<<32 + 1, nil, api.ErrArg},
		{"a factory's with data", worn, true, false, factory, some, api.ErrArg},
		{"a factory's with much data", worn, true, false, factory, big, api.ErrArg},
		{"much data, and worn", worn, true, false, snapshot, big, api.ErrBig},
		{"much more data", full[1:], false, false, snapshot, make([]byte, 70000), api.ErrBig},
		{"worn", worn, true, false, snapshot, make([]byte, 39), api.ErrWorn},
	} {
		l := c.sectors
		for len(l) < 3 {
			l = append(l, ones(size))
		}
		f := flash.Of(slices.Concat(l...), 1)
		if c.isWorn {
			wearOut(f)
		}
		j := opened(t, c.what, f)
		if c.isOff {
			f.Cut(0, 0)
			f.Program(0, []byte{255})
		}
		m := modelOf(f.Copy())
		for range 2 {
			want(t, c.what, checkAppend(t, c.what, j, f, m, c.kind, c.data), c.want)
		}
	}
}

// wearOut erases all sectors but the first one as often as they bear, and leaves them empty but not clean.
func wearOut(f *flash.Flash) {
	for k := 1; k < f.Sectors(); k++ {
		for f.Erase(k) == api.OK {
		}
		f.Program(k*size, []byte{0})
	}
}

// P9.2, R2: behind each other error than ErrOff the journal goes on.
func TestAppendGoesOnBehindErrors(t *testing.T) {
	noughts := make([]byte, size)
	f := flash.Of(slices.Concat(begun(text(5, string(make([]byte, 900)))), noughts, noughts), 1)
	wearOut(f)
	j := opened(t, "worn", f)
	m := modelOf(f.Copy())
	for _, c := range []struct {
		kind, data int
		want       api.Errno
	}{
		{snapshot, 98 + 1, api.ErrWorn},
		{snapshot, 961, api.ErrBig},
		{7, 0, api.ErrArg},
		{snapshot, 50, api.OK},
		{factory, 1, api.ErrArg},
		{snapshot, 36, api.ErrWorn},
		{snapshot, 22, api.OK},
		{factory, 0, api.OK},
		{factory, 0, api.ErrWorn},
	} {
		want(t, fmt.Sprint(c), checkAppend(t, fmt.Sprint(c), j, f, m, c.kind, make([]byte, c.data)), c.want)
	}
	checkTold(t, "in the end", opened(t, "in the end", f), api.Record{Kind: factory, Number: 8}, 0)
}

// P9.2: the number before the last one is laid, and then no more.
func TestAppendUpToTheGreatestNumber(t *testing.T) {
	f := flashOf(ones(size), begun(text(math.MaxUint32-2, "ahead")), ones(size))
	j := opened(t, "ahead", f)
	m := modelOf(f.Copy())
	for i, c := range []api.Errno{api.OK, api.OK, api.ErrFull, api.ErrFull} {
		want(t, "top", checkAppend(t, "top", j, f, m, snapshot, []byte{byte(i)}), c)
	}
	checkTold(t, "top", opened(t, "top", f), api.Record{Kind: snapshot, Number: math.MaxUint32, Data: []byte{1}}, 1)
}

// P9.2: once off it stays off, also behind a Start, whether or not it had written; others on the same flash don't.
func TestOffStaysOff(t *testing.T) {
	for _, isTorn := range []bool{true, false} {
		f := flash.New(3, 9)
		j := opened(t, "new", f)
		want(t, "first", j.Append(snapshot, []byte("one")), api.OK)
		if isTorn {
			f.Cut(3, 0)
		} else {
			f.Cut(0, 0)
			f.Program(2*size, []byte{255})
		}
		want(t, "off", j.Append(snapshot, []byte("two")), api.ErrOff)
		f.Start()
		was := f.Copy()
		for _, kind := range []int{snapshot, factory, 3} {
			want(t, "stays off", j.Append(kind, nil), api.ErrOff)
		}
		checkFlash(t, "stays off", f, was)
		checkTold(t, "stays off", j, api.Record{Kind: snapshot, Number: 1, Data: []byte("one")}, 0)
		k := opened(t, "anew", f)
		want(t, "anew", k.Append(snapshot, []byte("three")), api.OK)
		r, _ := k.Last()
		if r.Number != 2 || string(r.Data) != "three" {
			t.Errorf("anew: %v", r)
		}
		want(t, "still off", j.Append(snapshot, nil), api.ErrOff)
	}
}

// P9.2: a power that was off and is on again between two calls of the journal was told by none of them.
func TestOffBetweenCalls(t *testing.T) {
	f := flash.New(3, 9)
	j := opened(t, "new", f)
	f.Cut(0, 0)
	f.Program(0, []byte{255})
	checkTold(t, "off", j, api.Record{}, 0)
	f.Start()
	want(t, "on", j.Append(snapshot, []byte("one")), api.OK)
	checkTold(t, "on", j, api.Record{Kind: snapshot, Number: 1, Data: []byte("one")}, 0)
}

// P9.2: what is laid, byte by byte, of each length of data that can be.
func TestAppendOfAllLengths(t *testing.T) {
	next := draw()
	for n := 0; n <= 960; n++ {
		data := noise(next, n)
		f := flash.New(3, 9)
		j := opened(t, "new", f)
		want(t, "append", j.Append(snapshot, data), api.OK)
		if b := f.Bytes(); !bytes.Equal(b, slices.Concat(begun(whole(1, 1, data)), ones(2*size))) || f.Ops() != n+13 {
			t.Fatalf("%d bytes: %d operations, %x", n, f.Ops(), b[:n+13])
		}
		checkTold(t, "append", j, api.Record{Kind: snapshot, Number: 1, Data: data}, 0)
		checkTold(t, "anew", opened(t, "anew", f), api.Record{Kind: snapshot, Number: 1, Data: data}, 0)
	}
}

// P9.2: where there is just room the record goes behind the last one, and where there is a byte too few it begins another sector.
func TestAppendAtTheEndOfASector(t *testing.T) {
	for n := 0; n <= 960; n++ {
		first := text(1, string(make([]byte, n)))
		for _, more := range []int{-1, 0, 1} {
			data := size - len(first) - 13 + more
			if data < 0 || data > 960 {
				continue
			}
			f := flashOf(begun(first), ones(size), ones(size))
			j := opened(t, "first", f)
			want(t, "second", j.Append(snapshot, make([]byte, data)), api.OK)
			at := 0
			if more > 0 {
				at = 1
			}
			if j.At() != at || total(f) != 0 {
				t.Errorf("%d bytes behind %d: sector %d, %d erasings", data, len(first), j.At(), total(f))
			}
			checkTold(t, "anew", opened(t, "anew", f), api.Record{Kind: snapshot, Number: 2, Data: make([]byte, data)}, at)
		}
	}
}

// P9.2: which sector is begun, and whether it is erased.
func TestAppendBegins(t *testing.T) {
	empty, noughts, much := ones(size), make([]byte, size), string(make([]byte, 960))
	four, five := begun(text(4, "four")), begun(text(5, much))
	far := begun()
	far[size-1] = 254
	for _, c := range []struct {
		what     string
		sectors  [][]byte
		worn     []int
		most     int
		at, wear int
	}{
		{"all empty", [][]byte{empty, empty, empty}, []int{0, 0, 0}, 1, 0, 0},
		{"all empty, and worn out", [][]byte{empty, empty, empty}, []int{1, 1, 1}, 1, 0, 1},
		{"the least wear", [][]byte{empty, empty, empty}, []int{3, 1, 2}, 9, 1, 1},
		{"an empty one", [][]byte{five, empty, noughts}, []int{0, 2, 2}, 9, 1, 2},
		{"one with less wear", [][]byte{five, empty, noughts}, []int{0, 2, 1}, 9, 2, 2},
		{"older records, clean behind them", [][]byte{five, four, four}, []int{0, 1, 1}, 9, 1, 2},
		{"the only one that may be erased", [][]byte{four, five, four}, []int{4, 0, 3}, 4, 2, 4},
		{"not the newest one", [][]byte{four, noughts, five}, []int{2, 2, 0}, 9, 0, 3},
		{"a last byte that is not clean", [][]byte{five, far, far}, []int{0, 5, 4}, 9, 2, 5},
		{"worn out, but empty", [][]byte{five, empty, noughts}, []int{0, 4, 4}, 4, 1, 4},
		{"worn out, and a later one is empty", [][]byte{five, noughts, empty}, []int{0, 4, 4}, 4, 2, 4},
		{"no record yet, and nothing is clean", [][]byte{noughts, far, noughts}, []int{3, 2, 2}, 9, 1, 3},
		{"a newest one that is torn behind its records", [][]byte{begun(text(6, "six"), []byte{'W', 1}), four, empty}, []int{0, 1, 1}, 9, 1, 2},
		{"a newest one with a byte far behind its records", [][]byte{append(begun(text(6, "six"))[:size-1], 0), empty, four}, []int{0, 1, 0}, 9, 2, 1},
	} {
		f := flash.New(3, c.most)
		for k, b := range c.sectors {
			for range c.worn[k] {
				f.Erase(k)
			}
			f.Program(k*size, b)
		}
		j := opened(t, c.what, f)
		m := modelOf(f.Copy())
		want(t, c.what, checkAppend(t, c.what, j, f, m, snapshot, []byte(much)), api.OK)
		if j.At() != c.at || f.Worn(c.at) != c.wear {
			t.Errorf("%s: sector %d, wear %d; want %d, %d", c.what, j.At(), f.Worn(j.At()), c.at, c.wear)
		}
		r, _ := j.Last()
		if b := f.Bytes()[c.at*size : (c.at+1)*size]; !bytes.Equal(b, begun(text(r.Number, much))) {
			t.Errorf("%s: the sector is %x", c.what, b)
		}
	}
}

// starts are flashes on which an Append goes behind a record, into a clean sector, and into one that is erased.
func starts() map[string]*flash.Flash {
	much := string(make([]byte, 960))
	return map[string]*flash.Flash{
		"none":           flash.New(3, 9),
		"behind":         flashOf(begun(text(4, "four")), begun(text(5, "five")), ones(size)),
		"into a clean":   flashOf(make([]byte, size), begun(text(5, much)), ones(size)),
		"erased":         flashOf(begun(text(3, "three")), begun(text(4, "four")), begun(text(5, much))),
		"erased noughts": flashOf(begun(text(5, much)), make([]byte, size), make([]byte, size)),
		"erased letters": flashOf(begun(text(5, much)), bytes.Repeat([]byte{'W'}, size), make([]byte, size)),
		"behind torn":    flashOf(begun(text(5, "five"), text(6, "torn")[:10]), begun(text(4, "four")), begun(text(3, "three"))),
	}
}

// P9.3: the power fails in each operation of an Append, torn in many ways; and what is appended then is told.
func TestPowerFailsAnywhere(t *testing.T) {
	masks := []uint32{0, 1, 2, 4, 8, 16, 32, 64, 128, 255, 0x0f, 0xf0, 0x55, 0xaa, 300, 1023, 1024, 1025, math.MaxUint32}
	for name, start := range starts() {
		for _, kind := range []int{snapshot, factory} {
			var data []byte
			if kind == snapshot {
				data = []byte("what is to be stored")
			}
			opens := modelOf(start.Copy())
			old := opens.last()
			e, ops := opens.append(kind, data)
			if e != api.OK {
				t.Fatal(name, e)
			}
			for n := range ops + 1 {
				for _, mask := range masks {
					what := fmt.Sprintf("%s, kind %d, cut behind %d, mask %#x", name, kind, n, mask)
					checkCut(t, what, start.Copy(), n, mask, kind, data, old, n == ops)
				}
			}
		}
	}
}

// checkCut holds one Append with a cut; behind all of its operations the cut fails in what comes then.
func checkCut(t *testing.T, what string, f *flash.Flash, n int, mask uint32, kind int, data []byte, old api.Record, isDone bool) {
	t.Helper()
	j := opened(t, what, f)
	f.Cut(n, mask)
	m := modelOf(f.Copy())
	e := checkAppend(t, what, j, f, m, kind, data)
	if isDone != (e == api.OK) || e != api.OK && e != api.ErrOff {
		t.Fatalf("%s: %d", what, e)
	}
	f.Start()
	k := opened(t, what, f)
	r, _ := k.Last()
	isOld := r.Number == old.Number && bytes.Equal(r.Data, old.Data) && r.Kind == old.Kind
	isNew := r.Number == old.Number+1 && bytes.Equal(r.Data, data) && r.Kind == kind
	if !isNew && (isDone || !isOld) {
		t.Fatalf("%s: %v", what, r)
	}
	f.Cut(math.MaxInt, 0)
	want(t, what+", on", k.Append(snapshot, []byte("on")), api.OK)
	next, _ := opened(t, what+", on", f).Last()
	if next.Number != r.Number+1 || string(next.Data) != "on" {
		t.Fatalf("%s, on: %v", what, next)
	}
}

// P9.3: of a torn commit all depends on whether all of its bits are cleared.
func TestTornCommit(t *testing.T) {
	for mask := range uint32(256) {
		f := flashOf(begun(text(5, "five")), ones(size), ones(size))
		j := opened(t, "start", f)
		f.Cut(13+2, mask)
		want(t, "torn", j.Append(snapshot, []byte("six")), api.ErrOff)
		checkTold(t, "torn", j, api.Record{Kind: snapshot, Number: 5, Data: []byte("five")}, 0)
		f.Start()
		k := opened(t, "anew", f)
		if r, _ := k.Last(); (r.Number == 6) != (mask == 255) || r.Number == 6 && string(r.Data) != "six" {
			t.Errorf("%#x: %v", mask, r)
		}
	}
}

// P9.2 to P9.6: Appends without a pattern, with cuts, on flashes of many kinds, held against the model.
func TestAppendsAgainstTheModel(t *testing.T) {
	next := draw()
	seen := map[api.Errno]int{}
	for round := range 60 {
		endurance := 1 + next(6)
		f := flash.New(3+next(6), endurance)
		if round%3 == 1 {
			f = flash.Of(anyBytes(next, 3+next(6)), endurance)
		}
		j := opened(t, "start", f)
		m := modelOf(f.Copy())
		for step := range 60 {
			what := fmt.Sprintf("round %d, step %d", round, step)
			if next(8) == 0 {
				n, mask := next(1200), uint32(next(1<<31))
				f.Cut(n, mask)
				m.f.Cut(n, mask)
			}
			if m.isOff || next(20) == 0 {
				f.Start()
				m.f.Start()
				j = opened(t, what, f)
				m = modelOf(m.f)
			}
			kind, data := snapshot, noise(next, next(980))
			if next(4) == 0 {
				kind, data = next(4), data[:len(data)*next(2)]
			}
			seen[checkAppend(t, what, j, f, m, kind, data)]++
		}
	}
	for _, e := range []api.Errno{api.OK, api.ErrOff, api.ErrArg, api.ErrBig, api.ErrWorn} {
		if seen[e] == 0 {
			t.Errorf("%d was never answered", e)
		}
	}
}

// anyBytes are sectors of all kinds: empty ones, noise, records in a row, out of it, and broken.
func anyBytes(next func(n int) int, sectors int) []byte {
	var all []byte
	for range sectors {
		b := begun()
		switch next(5) {
		case 0:
			copy(b, noise(next, size))
		case 1:
			copy(b[next(size):], noise(next, 9))
		case 2, 3:
			number := uint32(next(30))
			var l []byte
			for range 1 + next(5) {
				l = append(l, whole(byte(1+next(9)/8), number, noise(next, next(2)*next(150)))...)
				number += []uint32{1, 1, 1, 1, 1, 1, 0, 2}[next(8)]
			}
			if next(3) == 0 {
				l[next(len(l))] ^= 1 << next(8)
			}
			if next(4) == 0 {
				l = l[:next(len(l))]
			}
			copy(b, l)
		}
		all = append(all, b...)
	}
	return all
}

// P9.6: whatever bytes there are, what is appended is told by the next Open.
func TestAnyBytes(t *testing.T) {
	next := draw()
	for round := range 400 {
		f := flash.Of(anyBytes(next, 3+next(6)), 1000)
		j := opened(t, "any bytes", f)
		was, _ := j.Last()
		for i := range 5 {
			what := fmt.Sprintf("round %d, %d", round, i)
			data := noise(next, next(961))
			want(t, what, j.Append(snapshot, data), api.OK)
			k := opened(t, what, f)
			checkTold(t, what, k, api.Record{Kind: snapshot, Number: was.Number + uint32(i) + 1, Data: data}, j.At())
			if i%2 == 1 {
				j = k
			}
		}
	}
}

// P9.5: from an empty flash on, of Appends of all lengths, with cuts and without.
func TestWear(t *testing.T) {
	next := draw()
	for _, one := range []struct{ least, more, cuts int }{
		{960, 1, 0}, {0, 1, 0}, {0, 961, 0}, {400, 1, 0}, {960, 1, 3}, {0, 961, 5}, {500, 400, 1}, {0, 40, 20},
	} {
		for sectors := 3; sectors <= 8; sectors++ {
			f := flash.New(sectors, 100000)
			j := opened(t, "new", f)
			good, failed := 0, 0
			for step := range 150 {
				if one.cuts > 0 && next(one.cuts) == 0 {
					f.Cut(next(one.least+one.more), uint32(next(1<<31)))
				}
				switch e := j.Append(snapshot, make([]byte, one.least+next(one.more))); e {
				case api.OK:
					good++
				case api.ErrOff:
					failed++
					f.Start()
					j = opened(t, "anew", f)
				default:
					t.Fatal(e)
				}
				if total(f) > good+failed || spread(f) > failed+2 {
					t.Fatalf("%v, %d sectors, step %d: %d erasings, which differ by %d, behind %d Appends and %d failures", one, sectors, step, total(f), spread(f), good, failed)
				}
			}
			if (one.cuts > 0) != (failed > 0) || total(f) == 0 && one.least > 100 {
				t.Errorf("%v, %d sectors: %d failures, %d erasings", one, sectors, failed, total(f))
			}
		}
	}
}

// P9.5: failures in erasings alone, again and again.
func TestWearOfTornErasings(t *testing.T) {
	for _, mask := range []uint32{0, 1, 500, 1024} {
		f := flash.New(3, 100000)
		j := opened(t, "new", f)
		good, failed := 0, 0
		for step := range 200 {
			if step%3 == 1 {
				f.Cut(0, mask)
			}
			e := j.Append(snapshot, make([]byte, 960))
			if e == api.OK {
				good++
			} else {
				failed++
				f.Start()
				j = opened(t, "anew", f)
			}
			if total(f) > good+failed || spread(f) > failed+2 {
				t.Fatalf("mask %d, step %d: %d erasings, which differ by %d, behind %d Appends and %d failures", mask, step, total(f), spread(f), good, failed)
			}
		}
	}
}

// P9.4: an Append's operations are as many as its record's bytes, and one more at most.
func TestWork(t *testing.T) {
	f := flash.New(4, 1000)
	j := opened(t, "new", f)
	erased := 0
	for i := range 200 {
		ops, worn, n := f.Ops(), total(f), i*37%961
		want(t, "append", j.Append(snapshot, make([]byte, n)), api.OK)
		more := total(f) - worn
		if more > 1 || f.Ops()-ops != n+13+more {
			t.Errorf("%d bytes: %d operations, %d erasings", n, f.Ops()-ops, more)
		}
		erased += more
		ops = f.Ops()
		j.Last()
		j.At()
		Open(f)
		if f.Ops() != ops {
			t.Error("what tells takes operations")
		}
	}
	if erased == 0 || erased == 200 {
		t.Error(erased)
	}
}

// R1: of nil, and of a journal that Open did not give.
func TestOfNil(t *testing.T) {
	for _, j := range []*Journal{nil, {}, new(Journal)} {
		for range 2 {
			for _, kind := range []int{math.MinInt, -1, 0, 1, 2, 3, math.MaxInt} {
				for _, data := range [][]byte{nil, {}, {1}, make([]byte, 2000)} {
					want(t, "Append", j.Append(kind, data), api.ErrNil)
				}
			}
			if r, ok := j.Last(); ok || r.Kind != 0 || r.Number != 0 || r.Data != nil {
				t.Error(r, ok)
			}
			if j.At() != 0 {
				t.Error(j.At())
			}
		}
	}
}

// R1: numbers and bytes of any kind, on a journal whose power is off, too.
func TestWildArguments(t *testing.T) {
	f := flash.New(3, 1000)
	j := opened(t, "new", f)
	m := modelOf(f.Copy())
	for round := range 2 {
		for _, kind := range []int{math.MinInt, math.MinInt + 1, -1 << 32, -256, -1, 0, 1, 2, 3, 256, 258, 1 << 32, 1<<32 + 2, math.MaxInt} {
			for _, data := range [][]byte{nil, {}, {0}, ones(960), ones(961), make([]byte, 1<<16), make([]byte, 1<<16+5)} {
				checkAppend(t, fmt.Sprint("round ", round, " kind ", kind), j, f, m, kind, data)
			}
		}
		f.Cut(0, 7)
		m.f.Cut(0, 7)
	}
	if f.On() {
		t.Error("the power did not fail")
	}
}

// R4: what is handed in is neither changed nor kept, nor the room behind it.
func TestWhatIsHandedInIsLeft(t *testing.T) {
	room := []byte("data, and room behind it")
	was := bytes.Clone(room)
	f := flash.New(3, 9)
	j := opened(t, "new", f)
	want(t, "append", j.Append(snapshot, room[:4]), api.OK)
	if !bytes.Equal(room, was) {
		t.Errorf("what was handed in is %q", room)
	}
	for i := range room {
		room[i] = '!'
	}
	checkTold(t, "behind a change", j, api.Record{Kind: snapshot, Number: 1, Data: []byte("data")}, 0)
	checkTold(t, "anew", opened(t, "anew", f), api.Record{Kind: snapshot, Number: 1, Data: []byte("data")}, 0)
}

// R4: what is answered is new, with the room behind it.
func TestWhatIsAnsweredIsNew(t *testing.T) {
	for n := range 40 {
		data := bytes.Repeat([]byte{'d'}, n)
		f := flash.New(3, 9)
		j := opened(t, "new", f)
		want(t, "append", j.Append(snapshot, data), api.OK)
		for _, k := range []*Journal{j, opened(t, "anew", f)} {
			first, _ := k.Last()
			second, _ := k.Last()
			all := first.Data[:cap(first.Data)]
			for i := range all {
				all[i] = '!'
			}
			if !bytes.Equal(second.Data, data) {
				t.Errorf("two answers share memory: %q", second.Data)
			}
			checkTold(t, "behind a change", k, api.Record{Kind: snapshot, Number: 1, Data: data}, 0)
		}
		checkTold(t, "anew", opened(t, "anew", f), api.Record{Kind: snapshot, Number: 1, Data: data}, 0)
	}
}

// R4: the flash that is handed in is the one that is worked on, and no copy of it is.
func TestFlashIsWorkedOn(t *testing.T) {
	f := flash.New(3, 9)
	j := opened(t, "new", f)
	g := f.Copy()
	want(t, "append", j.Append(snapshot, []byte("one")), api.OK)
	checkTold(t, "the flash", opened(t, "the flash", f), api.Record{Kind: snapshot, Number: 1, Data: []byte("one")}, 0)
	checkTold(t, "its copy", opened(t, "its copy", g), api.Record{}, 0)
}

// R5: the same calls on objects of their own are answered alike.
func TestOneAnswer(t *testing.T) {
	run := func() ([]api.Errno, []byte) {
		next := draw()
		f := flash.New(5, 4)
		j, _ := Open(f)
		var l []api.Errno
		for range 80 {
			l = append(l, j.Append(next(4), noise(next, next(990))))
			if next(5) == 0 {
				f.Cut(next(900), uint32(next(1<<31)))
			}
			if !f.On() {
				f.Start()
				j, _ = Open(f)
			}
		}
		return l, f.Bytes()
	}
	l, b := run()
	for range 3 {
		if k, c := run(); !slices.Equal(k, l) || !bytes.Equal(c, b) {
			t.Fatal("two answers")
		}
	}
}

// The chapter's examples.
func TestExamples(t *testing.T) {
	f := flash.New(3, 9)
	j, e := Open(f)
	want(t, "Open", e, api.OK)
	checkTold(t, "new", j, api.Record{}, 0)
	want(t, "a", j.Append(api.KindSnapshot, []byte("a")), api.OK)
	if b := f.Bytes(); !bytes.Equal(b[:14], text(1, "a")) || !bytes.Equal(b[14:], ones(3*size-14)) {
		t.Errorf("%x", b[:20])
	}
	f = flash.New(3, 9)
	j, _ = Open(f)
	for i := range 10 {
		want(t, "400 bytes", j.Append(api.KindSnapshot, make([]byte, 400)), api.OK)
		worn := 0
		if i >= 4 {
			worn = 1
		}
		if j.At() != []int{0, 1, 0, 1, 2}[i/2] || f.Worn(0) != worn {
			t.Errorf("%d: sector %d, wear %d", i+1, j.At(), f.Worn(0))
		}
	}
}
