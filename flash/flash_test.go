package flash

import (
	"bytes"
	"fmt"
	"math"
	"slices"
	"testing"

	"wheelhouse/api"
)

// size is a sector's bytes, written out, so that it hangs on nothing of the package.
const size = 1024

// draw hands out numbers below n, without a pattern, and the same ones in each run.
func draw() func(n int) int {
	state := uint64(0x9e3779b97f4a7c15)
	return func(n int) int {
		state = state*6364136223846793005 + 1442695040888963407
		return int(state>>33) % n
	}
}

// mixed are bytes without a pattern.
func mixed(next func(n int) int, n int) []byte {
	b := make([]byte, n)
	for i := range b {
		b[i] = byte(next(256))
	}
	return b
}

// model is a flash by a way that shares nothing with the package: each bit for itself, and the operations of a call laid out ahead.
type model struct {
	bits      [][8]bool
	worn      []int
	endurance int
	isOff     bool
	isPlanned bool
	ahead     int
	mask      uint32
	ops       int
}

// modelOf is a model of bytes.
func modelOf(b []byte, endurance int) *model {
	m := &model{worn: make([]int, len(b)/size), endurance: endurance}
	for _, c := range b {
		var row [8]bool
		for i := range row {
			row[i] = c>>i&1 == 1
		}
		m.bits = append(m.bits, row)
	}
	return m
}

// modelNew is a model that is erased.
func modelNew(sectors, endurance int) *model {
	return modelOf(bytes.Repeat([]byte{255}, sectors*size), endurance)
}

func (m *model) copied() *model {
	n := *m
	n.bits = slices.Clone(m.bits)
	n.worn = slices.Clone(m.worn)
	return &n
}

func (m *model) bytes() []byte {
	var b []byte
	for _, row := range m.bits {
		c := 0
		for i, is := range row {
			if is {
				c += 1 << i
			}
		}
		b = append(b, byte(c))
	}
	return b
}

// fails tells whether the power fails in the operation that comes.
func (m *model) fails() bool {
	if m.isPlanned && m.ahead == 0 {
		m.isPlanned = false
		m.isOff = true
		return true
	}
	m.ahead--
	m.ops++
	return false
}

func (m *model) erase(sector int) api.Errno {
	if m.isOff {
		return api.ErrOff
	}
	if sector < 0 || sector >= len(m.worn) {
		return api.ErrRange
	}
	if m.worn[sector] >= m.endurance {
		return api.ErrWorn
	}
	m.worn[sector]++
	e, most := api.OK, size
	if m.fails() {
		e, most = api.ErrOff, int(m.mask%1025)
	}
	for i := range most {
		m.bits[sector*size+i] = [8]bool{true, true, true, true, true, true, true, true}
	}
	return e
}

func (m *model) program(at int, b []byte) api.Errno {
	if m.isOff {
		return api.ErrOff
	}
	if at < 0 || at > len(m.bits) || len(b) > len(m.bits)-at {
		return api.ErrRange
	}
	for i, c := range b {
		fails := m.fails()
		for bit := range 8 {
			is := c>>bit&1 == 1
			reached := !fails || m.mask>>bit&1 == 1
			if !is && reached {
				m.bits[at+i][bit] = false
			}
		}
		if fails {
			return api.ErrOff
		}
	}
	return api.OK
}

func (m *model) read(at, n int) ([]byte, api.Errno) {
	if m.isOff {
		return nil, api.ErrOff
	}
	if at < 0 || at > len(m.bits) || n < 0 || n > len(m.bits)-at {
		return nil, api.ErrRange
	}
	return m.bytes()[at : at+n], api.OK
}

func (m *model) plan(n int, mask uint32) api.Errno {
	if n < 0 {
		return api.ErrArg
	}
	m.isPlanned, m.ahead, m.mask = true, n, mask
	return api.OK
}

// check holds all that a flash tells, its power being on or off, against a model.
func check(t *testing.T, what string, f *Flash, m *model) {
	t.Helper()
	if f == nil {
		t.Fatalf("%s: nil", what)
	}
	if f.Len() != len(m.bits) || f.Sectors() != len(m.worn) || f.On() == m.isOff || f.Ops() != m.ops {
		t.Fatalf("%s: Len %d, Sectors %d, On %t, Ops %d; want %d, %d, %t, %d", what, f.Len(), f.Sectors(), f.On(), f.Ops(), len(m.bits), len(m.worn), !m.isOff, m.ops)
	}
	for s := -2; s < 12; s++ {
		worn, left := 0, 0
		if s >= 0 && s < len(m.worn) {
			worn, left = m.worn[s], m.endurance-m.worn[s]
		}
		if f.Worn(s) != worn || f.Left(s) != left {
			t.Fatalf("%s: Worn(%d) %d, Left %d; want %d, %d", what, s, f.Worn(s), f.Left(s), worn, left)
		}
	}
	if b, want := f.Bytes(), m.bytes(); !bytes.Equal(b, want) {
		for i := range want {
			if i < len(b) && b[i] != want[i] {
				t.Fatalf("%s: byte %d is %02x; want %02x", what, i, b[i], want[i])
			}
		}
		t.Fatalf("%s: %d bytes; want %d", what, len(b), len(want))
	}
}

// want holds an error against what it is to be.
func want(t *testing.T, what string, e, is api.Errno) {
	t.Helper()
	if e != is {
		t.Errorf("%s: %d; want %d", what, e, is)
	}
}

// The chapter's limits are those of api.
func TestLimitsAreThoseOfApi(t *testing.T) {
	if api.SectorBytes != size || api.MaxSectors != 8 {
		t.Errorf("SectorBytes %d, MaxSectors %d", api.SectorBytes, api.MaxSectors)
	}
}

// P6.1, P6.5
func TestNewOfAllSectors(t *testing.T) {
	for _, endurance := range []int{1, 2, 100000, math.MaxInt} {
		for sectors := 1; sectors <= 8; sectors++ {
			f := New(sectors, endurance)
			check(t, fmt.Sprintf("New(%d, %d)", sectors, endurance), f, modelNew(sectors, endurance))
		}
	}
}

// P6.1
func TestNewOfNone(t *testing.T) {
	for _, sectors := range []int{math.MinInt, math.MinInt32, -8, -1, 0, 9, 10, 256, 257, 1024, 1 << 32, 1<<32 + 1, 1<<54 + 1, math.MaxInt} {
		for _, endurance := range []int{math.MinInt, -1, 0, 1, math.MaxInt} {
			if f := New(sectors, endurance); f != nil {
				t.Errorf("New(%d, %d) is one", sectors, endurance)
			}
		}
	}
	for sectors := 1; sectors <= 8; sectors++ {
		for _, endurance := range []int{0, -1, math.MinInt, math.MinInt + 1, -1 << 32} {
			if f := New(sectors, endurance); f != nil {
				t.Errorf("New(%d, %d) is one", sectors, endurance)
			}
		}
	}
}

// P6.1
func TestOfAllLengths(t *testing.T) {
	next := draw()
	for sectors := range 12 {
		for _, more := range []int{-1, 0, 1, 512} {
			n := sectors*size + more
			if n < 0 {
				continue
			}
			b := mixed(next, n)
			for _, endurance := range []int{math.MinInt, -1, 0, 1, 7} {
				f := Of(b, endurance)
				if more != 0 || sectors < 1 || sectors > 8 || endurance < 1 {
					if f != nil {
						t.Errorf("Of %d bytes, %d, is one", n, endurance)
					}
					continue
				}
				check(t, fmt.Sprintf("Of %d bytes, %d", n, endurance), f, modelOf(b, endurance))
			}
		}
	}
	if Of(nil, 1) != nil || Of([]byte{}, 1) != nil {
		t.Error("of nothing")
	}
}

// P6.2
func TestEraseOfEachSector(t *testing.T) {
	next := draw()
	for sectors := 1; sectors <= 8; sectors++ {
		b := mixed(next, sectors*size)
		for s := range sectors {
			f, m := Of(b, 2), modelOf(b, 2)
			what := fmt.Sprintf("sector %d of %d", s, sectors)
			for range 4 {
				want(t, what, f.Erase(s), m.erase(s))
				check(t, what, f, m)
			}
			if f.Worn(s) != 2 || f.Left(s) != 0 {
				t.Errorf("%s: Worn %d, Left %d", what, f.Worn(s), f.Left(s))
			}
		}
	}
}

// P6.2: as often as the endurance, and no more; then its bytes are programmed and read as ever.
func TestEraseUpToTheEndurance(t *testing.T) {
	for _, endurance := range []int{1, 2, 3, 10, 1000} {
		f, m := New(2, endurance), modelNew(2, endurance)
		for i := range endurance {
			f.Program(size, []byte{0})
			m.program(size, []byte{0})
			want(t, "erase", f.Erase(1), api.OK)
			m.erase(1)
			if f.Worn(1) != i+1 || f.Left(1) != endurance-i-1 {
				t.Errorf("endurance %d: Worn %d, Left %d behind %d", endurance, f.Worn(1), f.Left(1), i+1)
			}
		}
		want(t, "program", f.Program(2*size-1, []byte{5}), api.OK)
		m.program(2*size-1, []byte{5})
		want(t, "worn", f.Erase(1), api.ErrWorn)
		want(t, "other", f.Erase(0), api.OK)
		m.erase(0)
		check(t, "worn", f, m)
	}
}

// P6.2: the first error that applies; and it changes nothing (R2).
func TestEraseErrors(t *testing.T) {
	strange := []int{math.MinInt, math.MinInt + 1, -1 << 54, -3, -2, -1, 3, 4, 8, 9, 1 << 54, 1 << 32, 1<<61 + 1, math.MaxInt}
	f, m := New(3, 1), modelNew(3, 1)
	f.Erase(1)
	m.erase(1)
	f.Program(size, []byte{1, 2})
	m.program(size, []byte{1, 2})
	for _, s := range strange {
		want(t, fmt.Sprint("erase ", s), f.Erase(s), api.ErrRange)
	}
	want(t, "worn", f.Erase(1), api.ErrWorn)
	check(t, "behind errors", f, m)
	f.Cut(0, 0)
	m.plan(0, 0)
	want(t, "torn", f.Erase(0), api.ErrOff)
	m.erase(0)
	for _, s := range append(strange, 0, 1, 2) {
		want(t, fmt.Sprint("off ", s), f.Erase(s), api.ErrOff)
	}
	check(t, "off", f, m)
	f.Start()
	m.isOff = false
	want(t, "worn by a torn one", f.Erase(0), api.ErrWorn)
	check(t, "in the end", f, m)
}

// P6.3, P6.6: each byte on each byte.
func TestProgramOfAllBytes(t *testing.T) {
	for old := range 256 {
		f := Of(bytes.Repeat([]byte{byte(old)}, size), 1)
		all := make([]byte, 256)
		for i := range all {
			all[i] = byte(i)
		}
		want(t, "program", f.Program(300, all), api.OK)
		b := f.Bytes()
		for i := range size {
			is := old
			if i >= 300 && i < 556 {
				is = old & (i - 300)
			}
			if int(b[i]) != is {
				t.Fatalf("%02x on %02x is %02x; want %02x", byte(i-300), old, b[i], is)
			}
		}
		if f.Ops() != 256 {
			t.Errorf("Ops %d", f.Ops())
		}
	}
}

// P6.3: places and numbers of bytes about each edge, beyond each sector's, too.
func TestPlaces(t *testing.T) {
	next := draw()
	for _, sectors := range []int{1, 2, 8} {
		old := mixed(next, sectors*size)
		total := sectors * size
		var places []int
		for _, edge := range []int{0, size, total - size, total} {
			for d := -3; d <= 3; d++ {
				places = append(places, edge+d)
			}
		}
		places = append(places, math.MinInt, math.MinInt+1, math.MinInt32, -1<<32, 1<<32, math.MaxInt32, math.MaxInt-1, math.MaxInt)
		for _, at := range places {
			for _, n := range []int{0, 1, 2, 3, 5, size - 1, size, size + 1, total - 1, total, total + 1} {
				what := fmt.Sprintf("%d from %d on of %d", n, at, total)
				f, m := Of(old, 1), modelOf(old, 1)
				is, e := m.read(at, n)
				b, got := f.Read(at, n)
				want(t, "read "+what, got, e)
				if !bytes.Equal(b, is) {
					t.Fatalf("read %s: %x; want %x", what, b, is)
				}
				if got != api.OK && b != nil {
					t.Errorf("read %s: %x beside an error", what, b)
				}
				with := mixed(next, n)
				want(t, "program "+what, f.Program(at, with), m.program(at, with))
				check(t, "program "+what, f, m)
			}
			for _, n := range []int{math.MinInt, math.MinInt + 1, -1 << 32, -2, -1, 1 << 32, math.MaxInt - 1, math.MaxInt} {
				b, e := Of(old, 1).Read(at, n)
				if len(b) != 0 || e != api.ErrRange {
					t.Errorf("Read(%d, %d) = %x, %d; want ErrRange alone", at, n, b, e)
				}
			}
		}
	}
}

// P6.3: nothing is beyond the end, though there are no bytes.
func TestPlacesOfNoBytes(t *testing.T) {
	f := New(1, 1)
	for _, c := range []struct {
		at int
		e  api.Errno
	}{{-1, api.ErrRange}, {0, api.OK}, {5, api.OK}, {1023, api.OK}, {1024, api.OK}, {1025, api.ErrRange}, {math.MaxInt, api.ErrRange}} {
		want(t, fmt.Sprint("nil at ", c.at), f.Program(c.at, nil), c.e)
		want(t, fmt.Sprint("none at ", c.at), f.Program(c.at, []byte{}), c.e)
		b, e := f.Read(c.at, 0)
		want(t, fmt.Sprint("read at ", c.at), e, c.e)
		if len(b) != 0 {
			t.Errorf("Read(%d, 0) = %x", c.at, b)
		}
	}
	if f.Ops() != 0 {
		t.Errorf("Ops %d", f.Ops())
	}
}

// P6.3: the power's failure is told ahead of a place that is none, and of no bytes.
func TestOffIsToldFirst(t *testing.T) {
	f := New(1, 1)
	f.Cut(0, 0)
	want(t, "torn", f.Program(0, []byte{0}), api.ErrOff)
	for _, at := range []int{math.MinInt, -1, 0, 1, 1024, 1025, math.MaxInt} {
		want(t, "program", f.Program(at, []byte{0}), api.ErrOff)
		want(t, "program none", f.Program(at, nil), api.ErrOff)
		for _, n := range []int{math.MinInt, -1, 0, 1, 1025, math.MaxInt} {
			if b, e := f.Read(at, n); len(b) != 0 || e != api.ErrOff {
				t.Errorf("Read(%d, %d) = %x, %d; want ErrOff alone", at, n, b, e)
			}
		}
	}
	check(t, "off", f, func() *model { m := modelNew(1, 1); m.isOff = true; return m }())
}

// P6.4, P6.6: each byte on each byte, torn by masks of all kinds; done again it is whole.
func TestTornProgrammingOfAllBytes(t *testing.T) {
	masks := []uint32{0, 1, 2, 4, 8, 16, 32, 64, 128, 0x0f, 0xf0, 0x55, 0xaa, 0xfe, 0x7f, 0xff, 0x100, 0xffffff00, 0xffffff0f, 0x12345678, math.MaxUint32}
	for _, mask := range masks {
		for old := range 256 {
			f := Of(bytes.Repeat([]byte{byte(old)}, size), 1)
			for with := range 256 {
				f.Cut(0, mask)
				want(t, "torn", f.Program(with, []byte{byte(with)}), api.ErrOff)
				f.Start()
			}
			if f.Ops() != 0 {
				t.Fatalf("Ops %d", f.Ops())
			}
			b := f.Bytes()
			for i := range size {
				is := old
				if i < 256 {
					is = old - old&^i&int(mask&255)
				}
				if int(b[i]) != is {
					t.Fatalf("%02x on %02x, torn by %08x: %02x; want %02x", byte(i), old, mask, b[i], is)
				}
			}
			for with := range 256 {
				want(t, "again", f.Program(with, []byte{byte(with)}), api.OK)
			}
			for with, c := range f.Bytes()[:256] {
				if int(c) != old&with {
					t.Fatalf("%02x on %02x, again: %02x; want %02x", with, old, c, old&with)
				}
			}
		}
	}
}

// P6.4: each choice of bits of a mask.
func TestTornProgrammingByAllMasks(t *testing.T) {
	for mask := range uint32(256) {
		for _, high := range []uint32{0, 0x100, 0xabcdef00} {
			f := Of(bytes.Repeat([]byte{0b11011010}, size), 1)
			f.Cut(0, mask|high)
			f.Program(9, []byte{0b10010110})
			if c, is := f.Bytes()[9], byte(0b11011010-0b01001000&mask); c != is {
				t.Errorf("mask %08x: %08b; want %08b", mask|high, c, is)
			}
		}
	}
}

// P6.4, P6.6: each number of bytes that a torn erasing reaches.
func TestTornErasingOfAllLengths(t *testing.T) {
	next := draw()
	old := mixed(next, 3*size)
	var masks []uint32
	for k := range uint32(1025) {
		masks = append(masks, k, k+1025, k+1025*4190210)
	}
	masks = append(masks, 1024, 1025, 1026, 2049, 2050, 1<<16, 1<<31, math.MaxInt32, math.MaxUint32-1, math.MaxUint32)
	for _, mask := range masks {
		f := Of(old, 5)
		want(t, "cut", f.Cut(0, mask), api.OK)
		want(t, "torn", f.Erase(1), api.ErrOff)
		is := slices.Clone(old)
		for i := range int(uint64(mask) % 1025) {
			is[size+i] = 255
		}
		if !bytes.Equal(f.Bytes(), is) || f.On() || f.Ops() != 0 || f.Worn(1) != 1 || f.Left(1) != 4 || f.Worn(0) != 0 || f.Worn(2) != 0 {
			t.Fatalf("mask %d: On %t, Ops %d, Worn %d %d %d, bytes alike: %t", mask, f.On(), f.Ops(), f.Worn(0), f.Worn(1), f.Worn(2), bytes.Equal(f.Bytes(), is))
		}
		f.Start()
		want(t, "again", f.Erase(1), api.OK)
		for i := range size {
			is[size+i] = 255
		}
		if !bytes.Equal(f.Bytes(), is) || f.Worn(1) != 2 || f.Ops() != 1 {
			t.Fatalf("mask %d: again: Worn %d, Ops %d", mask, f.Worn(1), f.Ops())
		}
	}
}

// P6.4: at each byte of a programming the power fails once; what is ahead is whole, what is behind as it was.
func TestCutsWithinAProgramming(t *testing.T) {
	next := draw()
	old, with := mixed(next, size), mixed(next, 40)
	for n := range 50 {
		mask := uint32(next(1 << 31))
		f, m := Of(old, 1), modelOf(old, 1)
		f.Cut(n, mask)
		m.plan(n, mask)
		e := f.Program(100, with)
		want(t, fmt.Sprint("cut ", n), e, m.program(100, with))
		if is := n >= 40; f.On() != is || (e == api.OK) != is {
			t.Errorf("cut %d: On %t, %d", n, f.On(), e)
		}
		if f.Ops() != min(n, 40) {
			t.Errorf("cut %d: Ops %d", n, f.Ops())
		}
		check(t, fmt.Sprint("cut ", n), f, m)
		f.Start()
		m.isOff = false
		want(t, "again", f.Program(100, with), m.program(100, with))
		check(t, fmt.Sprint("again ", n), f, m)
	}
}

// P6.4: an erasing counts as one, as each byte does; what is no operation does not count.
func TestWhatCountsAheadOfACut(t *testing.T) {
	f, m := New(2, 2), modelNew(2, 2)
	want(t, "erase", f.Erase(1), m.erase(1))
	want(t, "erase", f.Erase(1), m.erase(1))
	want(t, "cut", f.Cut(4, 0x3c), m.plan(4, 0x3c))
	want(t, "worn", f.Erase(1), api.ErrWorn)
	want(t, "none", f.Erase(2), api.ErrRange)
	want(t, "no bytes", f.Program(7, nil), api.OK)
	want(t, "beyond", f.Program(2047, []byte{0, 0}), api.ErrRange)
	f.Read(0, 2048)
	f.Read(0, -1)
	f.Start()
	want(t, "no cut", f.Cut(-1, 0), api.ErrArg)
	f.Copy().Program(0, []byte{0, 0, 0, 0, 0, 0})
	check(t, "behind none", f, m)
	want(t, "erase", f.Erase(0), m.erase(0))
	want(t, "two bytes that change nothing", f.Program(3, []byte{255, 255}), m.program(3, []byte{255, 255}))
	want(t, "a byte", f.Program(3, []byte{1}), m.program(3, []byte{1}))
	check(t, "behind four", f, m)
	want(t, "worn, though the cut is due", f.Erase(1), api.ErrWorn)
	want(t, "no bytes, though the cut is due", f.Program(2048, nil), api.OK)
	if b, e := f.Read(3, 2); e != api.OK || !bytes.Equal(b, []byte{1, 255}) || !f.On() {
		t.Errorf("%x, %d, On %t", b, e, f.On())
	}
	want(t, "torn", f.Program(4, []byte{0, 0}), api.ErrOff)
	m.program(4, []byte{0, 0})
	check(t, "torn", f, m)
	if b := f.Bytes(); b[4] != 0xc3 || b[5] != 255 {
		t.Errorf("%x", b[3:6])
	}
}

// P6.4: a cut happens once.
func TestACutIsNoLongerPlannedBehindIt(t *testing.T) {
	f := New(1, 5)
	f.Cut(0, 0xff)
	want(t, "torn", f.Program(0, []byte{0}), api.ErrOff)
	f.Start()
	want(t, "behind it", f.Program(1, bytes.Repeat([]byte{0}, 500)), api.OK)
	f.Cut(0, 3)
	want(t, "torn", f.Erase(0), api.ErrOff)
	f.Start()
	for range 3 {
		want(t, "behind it", f.Erase(0), api.OK)
	}
	if !f.On() || f.Ops() != 503 {
		t.Errorf("On %t, Ops %d", f.On(), f.Ops())
	}
}

// P6.4: the last cut that was planned stands; one that can't be leaves the one ahead.
func TestACutInPlaceOfAnother(t *testing.T) {
	for _, c := range []struct {
		cuts []int
		done int // ops till the power fails
	}{
		{[]int{0, 3}, 3}, {[]int{3, 0}, 0}, {[]int{2, 2}, 2}, {[]int{math.MaxInt, 1}, 1}, {[]int{4, -1}, 4}, {[]int{4, math.MinInt}, 4}, {[]int{-1, 2, -5, -6}, 2}, {[]int{5, 4, 3, 2, 1}, 1},
	} {
		f := New(1, 1)
		for i, n := range c.cuts {
			is := api.OK
			if n < 0 {
				is = api.ErrArg
			}
			want(t, fmt.Sprint("cut ", n), f.Cut(n, uint32(i)), is)
		}
		want(t, fmt.Sprint(c.cuts), f.Program(0, make([]byte, 20)), api.ErrOff)
		if f.Ops() != c.done {
			t.Errorf("%v: Ops %d; want %d", c.cuts, f.Ops(), c.done)
		}
	}
	f := New(1, 1)
	f.Cut(1, 0xff)
	f.Program(0, []byte{0})
	f.Cut(1, 0x0f)
	want(t, "counts anew", f.Program(1, []byte{0}), api.OK)
	want(t, "torn", f.Program(2, []byte{0}), api.ErrOff)
	if b := f.Bytes(); b[0] != 0 || b[1] != 0 || b[2] != 0xf0 {
		t.Errorf("%x: the mask is the last one's", b[:3])
	}
	f = New(1, 1)
	f.Cut(0, 0x0f)
	f.Cut(-1, 0xff)
	f.Program(0, []byte{0})
	if b := f.Bytes(); b[0] != 0xf0 {
		t.Errorf("%x: the mask is that of the cut that could be", b[0])
	}
}

// P6.4: no cut is planned at first, and a far one is not met.
func TestNoCut(t *testing.T) {
	for _, f := range []*Flash{New(1, math.MaxInt), Of(make([]byte, size), math.MaxInt), New(1, math.MaxInt).Copy()} {
		for range 2 {
			for range 3 {
				want(t, "program", f.Program(0, make([]byte, size)), api.OK)
				want(t, "erase", f.Erase(0), api.OK)
			}
			want(t, "far", f.Cut(math.MaxInt, 0), api.OK)
		}
		if !f.On() || f.Ops() != 6*1025 || f.Left(0) != math.MaxInt-6 {
			t.Errorf("On %t, Ops %d, Left %d", f.On(), f.Ops(), f.Left(0))
		}
	}
}

// P6.4: a cut that is planned while the power is off counts from the start on; while it is on a start changes nothing.
func TestCutWhileOff(t *testing.T) {
	f, m := New(1, 9), modelNew(1, 9)
	f.Cut(0, 0)
	m.plan(0, 0)
	want(t, "torn", f.Erase(0), m.erase(0))
	want(t, "no cut", f.Cut(-1, 0), api.ErrArg)
	want(t, "cut", f.Cut(0, 0), m.plan(0, 0))
	want(t, "cut again", f.Cut(2, 0xf0), m.plan(2, 0xf0))
	for range 5 {
		want(t, "off", f.Program(0, []byte{0}), api.ErrOff)
		want(t, "off", f.Erase(0), api.ErrOff)
	}
	check(t, "off", f, m)
	f.Start()
	m.isOff = false
	check(t, "on", f, m)
	want(t, "first", f.Program(0, []byte{0}), m.program(0, []byte{0}))
	f.Start()
	want(t, "second", f.Program(1, []byte{0}), m.program(1, []byte{0}))
	f.Start()
	want(t, "third", f.Program(2, []byte{0}), m.program(2, []byte{0}))
	check(t, "torn", f, m)
	if f.On() || f.Bytes()[2] != 0x0f || f.Ops() != 2 {
		t.Errorf("On %t, %x, Ops %d", f.On(), f.Bytes()[2], f.Ops())
	}
	f.Start()
	f.Start()
	if !f.On() {
		t.Error("off behind a start")
	}
}

// P6.5: a copy is alike in all, and what is done to one is not seen in the other.
func TestCopy(t *testing.T) {
	next := draw()
	for _, isOff := range []bool{false, true} {
		for n := range 6 {
			old := mixed(next, 2*size)
			f, m := Of(old, 3), modelOf(old, 3)
			f.Erase(1)
			m.erase(1)
			f.Program(5, []byte{0, 1, 2})
			m.program(5, []byte{0, 1, 2})
			if isOff {
				f.Cut(0, 77)
				m.plan(0, 77)
				f.Erase(0)
				m.erase(0)
			}
			f.Cut(n, 0x33)
			m.plan(n, 0x33)
			g, k := f.Copy(), m.copied()
			check(t, "copy", g, k)
			g.Start()
			k.isOff = false
			for i, c := range []byte{9, 8, 7} {
				want(t, "copy", g.Program(i, []byte{c}), k.program(i, []byte{c}))
			}
			want(t, "copy", g.Erase(0), k.erase(0))
			g.Cut(1, 1)
			k.plan(1, 1)
			check(t, "copy", g, k)
			check(t, "behind the copy's", f, m)
			f.Start()
			m.isOff = false
			for i, c := range []byte{9, 8, 7} {
				want(t, "the first", f.Program(i, []byte{c}), m.program(i, []byte{c}))
			}
			want(t, "the first", f.Erase(1), m.erase(1))
			check(t, "the first", f, m)
			check(t, "the copy in the end", g, k)
		}
	}
}

// P6.1 to P6.6: calls without a pattern, held against the model, some of them on copies.
func TestCallsOfAllKinds(t *testing.T) {
	next := draw()
	for round := range 60 {
		sectors, endurance := 1+next(8), 1+next(6)
		f, m := New(sectors, endurance), modelNew(sectors, endurance)
		if round%2 == 1 {
			b := mixed(next, sectors*size)
			f, m = Of(b, endurance), modelOf(b, endurance)
		}
		for step := range 120 {
			what := fmt.Sprintf("round %d, step %d", round, step)
			ahead := m.bytes()
			switch next(8) {
			case 0:
				s := next(sectors+2) - 1
				want(t, what+": erase", f.Erase(s), m.erase(s))
				checkErased(t, what, ahead, f.Bytes())
			case 1, 2, 3:
				at, b := next(sectors*size+40)-20, mixed(next, next(60))
				want(t, what+": program", f.Program(at, b), m.program(at, b))
				checkProgrammed(t, what, ahead, f.Bytes(), at, b)
			case 4:
				at, n := next(sectors*size+40)-20, next(60)-3
				b, e := f.Read(at, n)
				is, isE := m.read(at, n)
				if !bytes.Equal(b, is) || e != isE {
					t.Fatalf("%s: Read(%d, %d) = %x, %d; want %x, %d", what, at, n, b, e, is, isE)
				}
			case 5:
				n, mask := next(90)-4, uint32(next(1<<31))
				want(t, what+": cut", f.Cut(n, mask), m.plan(n, mask))
			case 6:
				f.Start()
				m.isOff = false
			case 7:
				f, m = f.Copy(), m.copied()
			}
			check(t, what, f, m)
		}
	}
}

// checkProgrammed holds the laws of a programming: no bit is set, and each is as it was, or as it was to be.
func checkProgrammed(t *testing.T, what string, ahead, behind []byte, at int, with []byte) {
	t.Helper()
	for i := range ahead {
		least := ahead[i]
		if i >= at && i < at+len(with) {
			least &= with[i-at]
		}
		if behind[i]&^ahead[i] != 0 || least&^behind[i] != 0 {
			t.Fatalf("%s: byte %d is %02x; it was %02x, and was to be %02x", what, i, behind[i], ahead[i], least)
		}
	}
}

// checkErased holds the law of an erasing: each byte is as it was, or erased, of a sector the erased ones ahead.
func checkErased(t *testing.T, what string, ahead, behind []byte) {
	t.Helper()
	for s := range len(ahead) / size {
		old, b := ahead[s*size:(s+1)*size], behind[s*size:(s+1)*size]
		k := 0
		for k < size && b[k] == 255 {
			k++
		}
		if !bytes.Equal(b[k:], old[k:]) {
			t.Fatalf("%s: sector %d is neither as it was nor erased behind byte %d", what, s, k)
		}
	}
}

// The chapter's examples.
func TestExamples(t *testing.T) {
	f := New(1, 2)
	want(t, "0f", f.Program(3, []byte{0x0f}), api.OK)
	want(t, "f0", f.Program(3, []byte{0xf0}), api.OK)
	if b, e := f.Read(3, 1); e != api.OK || !bytes.Equal(b, []byte{0}) {
		t.Errorf("byte 3 is %x, %d", b, e)
	}
	want(t, "cut", f.Cut(1, 0x0f), api.OK)
	want(t, "torn", f.Program(4, []byte{0, 0}), api.ErrOff)
	if b := f.Bytes(); b[4] != 0 || b[5] != 0xf0 {
		t.Errorf("bytes 4 and 5 are %x", b[4:6])
	}
	f.Start()
	want(t, "erase", f.Erase(0), api.OK)
	want(t, "erase", f.Erase(0), api.OK)
	want(t, "erase", f.Erase(0), api.ErrWorn)
	if New(0, 1) != nil {
		t.Error("New(0, 1) is one")
	}
	if b, e := f.Read(1024, 1); len(b) != 0 || e != api.ErrRange {
		t.Errorf("Read(1024, 1) = %x, %d", b, e)
	}
}

// R1: of nil, and of a flash that no call answered, nothing is told, whatever is asked.
func TestOfNil(t *testing.T) {
	numbers := []int{math.MinInt, -1, 0, 1, 1024, math.MaxInt}
	for _, f := range []*Flash{nil, {}} {
		for range 2 {
			for _, n := range numbers {
				want(t, "Erase", f.Erase(n), api.ErrNil)
				for _, b := range [][]byte{nil, {}, {1}, make([]byte, 2000)} {
					want(t, "Program", f.Program(n, b), api.ErrNil)
				}
				for _, k := range numbers {
					if b, e := f.Read(n, k); b != nil || e != api.ErrNil {
						t.Errorf("Read = %x, %d", b, e)
					}
				}
				want(t, "Cut", f.Cut(n, 7), api.ErrNil)
				if f.Worn(n) != 0 || f.Left(n) != 0 {
					t.Errorf("Worn(%d) %d, Left %d", n, f.Worn(n), f.Left(n))
				}
			}
			if f.Len() != 0 || f.Sectors() != 0 || f.Bytes() != nil || f.On() || f.Ops() != 0 || f.Copy() != nil {
				t.Errorf("Len %d, Sectors %d, Bytes %x, On %t, Ops %d", f.Len(), f.Sectors(), f.Bytes(), f.On(), f.Ops())
			}
			f.Start()
		}
	}
}

// R4: what is handed in is neither changed nor kept, nor the room behind it.
func TestWhatIsHandedInIsLeft(t *testing.T) {
	next := draw()
	room := mixed(next, 3*size)
	was := slices.Clone(room)
	b := room[size : 2*size : 3*size]
	f, m := Of(b, 3), modelOf(b, 3)
	f.Erase(0)
	m.erase(0)
	f.Program(0, b)
	m.program(0, b)
	f.Cut(7, 0x5a)
	m.plan(7, 0x5a)
	f.Program(20, b[:20])
	m.program(20, b[:20])
	if !bytes.Equal(room, was) {
		t.Error("what was handed in has changed")
	}
	for i := range room {
		room[i] ^= 255
	}
	check(t, "behind a change of what was handed in", f, m)
}

// R4: what is answered is new, with the room behind it.
func TestWhatIsAnsweredIsNew(t *testing.T) {
	next := draw()
	old := mixed(next, 2*size)
	f, m := Of(old, 3), modelOf(old, 3)
	spoil := func(b []byte) {
		b = b[:cap(b)]
		for i := range b {
			b[i] ^= 255
		}
	}
	for _, n := range []int{0, 1, 100, 1024, 2048} {
		a, _ := f.Read(0, n)
		b, _ := f.Read(0, n)
		spoil(a)
		if !bytes.Equal(b, old[:n]) {
			t.Errorf("%d bytes that were read share memory", n)
		}
		spoil(b)
		check(t, "read", f, m)
	}
	a, b := f.Bytes(), f.Bytes()
	spoil(a)
	if !bytes.Equal(b, old) {
		t.Error("Bytes share memory")
	}
	check(t, "bytes", f, m)
	spoil(f.Copy().Bytes())
	check(t, "copy", f, m)
}

// R5: the same calls on flashes of their own are answered alike.
func TestOneAnswer(t *testing.T) {
	run := func() ([]api.Errno, []byte) {
		next := draw()
		f := New(4, 3)
		var l []api.Errno
		for range 500 {
			l = append(l, f.Program(next(4*size), mixed(next, next(9))), f.Erase(next(5)), f.Cut(next(30)-1, uint32(next(1<<30))))
			if next(4) == 0 {
				f.Start()
			}
		}
		return l, f.Bytes()
	}
	l, b := run()
	for range 3 {
		if k, c := run(); !slices.Equal(k, l) || !bytes.Equal(c, b) {
			t.Fatal("two answers")
		}
	}
}
