package dict

import (
	"bytes"
	"math"
	"reflect"
	"slices"
	"testing"

	"wheelhouse/api"
)

// The numbers of the errors and of the codes, written out as api has them.
const (
	ok, errArg, errBig, errForm, errRange, errName, errType, errOrder = 0, 1, 3, 4, 9, 14, 15, 16

	writeOnly, readOnly, noObject, inside, tooLong, tooShort, noSub, noValue, tooHigh, tooLow = 0x06010001, 0x06010002, 0x06020000, 0x06040047, 0x06070012, 0x06070013, 0x06090011, 0x06090030, 0x06090031, 0x06090032
)

// extremes are numbers that stand for no place.
var extremes = []int{math.MinInt, math.MinInt + 1, -1 << 32, -1 << 16, -256, -1, 1 << 16, 1<<16 + 1, 1<<31 - 1, 1 << 31, 1 << 32, 1<<32 + 1, math.MaxInt - 1, math.MaxInt}

// draw gives numbers below n without a pattern, the same ones each time.
func draw() func(n int) int {
	x := uint64(88172645463325252)
	return func(n int) int {
		x ^= x << 13
		x ^= x >> 7
		x ^= x << 17
		return int(x>>1) % n
	}
}

func pick[T any](next func(int) int, l []T) T {
	return l[next(len(l))]
}

// some are right entries in order: all rights, numbers with and without a sign, texts and bytes; subs with gaps, and at both ends.
func some() []api.Entry {
	return []api.Entry{
		{Index: 0x0001, Sub: 255, Name: "first", Type: api.TBool, Access: api.AccRead, High: 1, Default: []byte{1}},
		{Index: 0x0002, Sub: 0, Name: "b", Type: api.TInt8, Access: api.AccWrite, Low: -5, High: 5, Default: []byte{0xfe}},
		{Index: 0x1000, Sub: 0, Name: "kind", Type: api.TUns32, Access: api.AccConst, High: 1<<32 - 1, Default: []byte{1, 2, 3, 4}},
		{Index: 0x1017, Sub: 0, Name: "beat", Type: api.TUns16, Access: api.AccBoth, Store: true, Low: 10, High: 1000, Default: []byte{20, 0}},
		{Index: 0x2000, Sub: 1, Name: "key", Type: api.TBytes, Access: api.AccWrite, Max: 4},
		{Index: 0x2000, Sub: 3, Name: "text", Type: api.TText, Access: api.AccBoth, Max: 8, Default: []byte("hi")},
		{Index: 0x2000, Sub: 4, Name: "fixed", Type: api.TText, Access: api.AccConst, Max: 3, Default: []byte("abc")},
		{Index: 0x2000, Sub: 255, Name: "big", Type: api.TDomain, Access: api.AccRead, Max: 256},
		{Index: 0x2001, Sub: 0, Name: "far", Type: api.TInt64, Access: api.AccBoth, Low: math.MinInt64, High: math.MaxInt64, Default: []byte{0, 0, 0, 0, 0, 0, 0, 128}},
		{Index: 0xffff, Sub: 255, Name: "last", Type: api.TInt16, Access: api.AccBoth, Map: true, Low: -2, High: -1, Default: []byte{255, 255}},
	}
}

// made is a dictionary of right entries.
func made(t *testing.T, l []api.Entry) *Dict {
	t.Helper()
	d, e, at := New(l)
	if d == nil || e != ok || at != 0 {
		t.Fatalf("New: %d at %d", e, at)
	}
	return d
}

// many are so many right entries of no order that a rule gives but that of their places.
func many(n int) []api.Entry {
	l := make([]api.Entry, n)
	for i := range l {
		l[i] = api.Entry{Index: 1 + i/3*7, Sub: i % 3 * 100, Name: "x", Type: api.TUns8, Access: api.AccBoth, High: 255, Default: []byte{byte(i)}}
	}
	return l
}

// same tells whether two entries are alike; a nil list is an empty one.
func same(a, b api.Entry) bool {
	isAlike := bytes.Equal(a.Default, b.Default)
	a.Default, b.Default = nil, nil
	return isAlike && reflect.DeepEqual(a, b)
}

// model is a dictionary as the promises say it, by a walk and a map.
type model struct {
	l      []api.Entry
	values map[[2]int]string
}

func newModel(l []api.Entry) *model {
	m := &model{l: l}
	m.reset()
	return m
}

func (m *model) reset() {
	m.values = map[[2]int]string{}
	for _, e := range m.l {
		m.values[[2]int{e.Index, e.Sub}] = string(e.Default)
	}
}

func (m *model) copied() *model {
	other := newModel(m.l)
	for k, v := range m.values {
		other.values[k] = v
	}
	return other
}

// at is the entry of a place, and its code.
func (m *model) at(index, sub int) (api.Entry, uint32) {
	code := uint32(noObject)
	for _, e := range m.l {
		if e.Index == index && e.Sub == sub {
			return e, 0
		}
		if e.Index == index {
			code = noSub
		}
	}
	return api.Entry{}, code
}

// wrong is why bytes are no value of an entry of some: step by step for these types alone.
func wrong(e api.Entry, b []byte) uint32 {
	size, isNumber := map[int]int{api.TBool: 1, api.TInt8: 1, api.TUns8: 1, api.TInt16: 2, api.TUns16: 2, api.TUns32: 4, api.TInt64: 8}[e.Type]
	if !isNumber {
		for _, c := range b {
			if len(b) <= e.Max && e.Type == api.TText && (c < 32 || c > 126) {
				return noValue
			}
		}
		if len(b) > e.Max {
			return tooLong
		}
		return 0
	}
	if len(b) < size {
		return tooShort
	}
	if len(b) > size {
		return tooLong
	}
	n := int64(0)
	for i, c := range b {
		n += int64(c) << (8 * i)
	}
	switch e.Type {
	case api.TInt8:
		n = int64(int8(n))
	case api.TInt16:
		n = int64(int16(n))
	}
	switch {
	case e.Type == api.TBool && n > 1:
		return noValue
	case n < e.Low:
		return tooLow
	case n > e.High:
		return tooHigh
	}
	return 0
}

func (m *model) get(index, sub int) (string, uint32) {
	e, code := m.at(index, sub)
	if code == 0 && e.Access == 3 {
		code = writeOnly
	}
	if code != 0 {
		return "", code
	}
	return m.values[[2]int{index, sub}], 0
}

func (m *model) peek(index, sub int) (string, bool) {
	v, isThere := m.values[[2]int{index, sub}]
	return v, isThere
}

func (m *model) may(index, sub int, b []byte) uint32 {
	e, code := m.at(index, sub)
	switch {
	case code != 0:
		return code
	case e.Access == 1 || e.Access == 2:
		return readOnly
	}
	return wrong(e, b)
}

func (m *model) set(index, sub int, b []byte) uint32 {
	code := m.may(index, sub, b)
	if code == 0 {
		m.values[[2]int{index, sub}] = string(b)
	}
	return code
}

func (m *model) poke(index, sub int, b []byte) uint32 {
	e, code := m.at(index, sub)
	if code == 0 {
		code = wrong(e, b)
	}
	if code == 0 {
		m.values[[2]int{index, sub}] = string(b)
	}
	return code
}

// check holds all that a dictionary tells against the model.
func check(t *testing.T, d *Dict, m *model) {
	t.Helper()
	if got := d.Len(); got != len(m.l) {
		t.Fatalf("Len: %d, not %d", got, len(m.l))
	}
	values := d.Values()
	if len(values) != len(m.l) {
		t.Fatalf("Values: %d, not %d", len(values), len(m.l))
	}
	for i, want := range m.l {
		e, isThere := d.Entry(i)
		if !isThere || !same(e, want) {
			t.Fatalf("Entry(%d): %+v, not %+v", i, e, want)
		}
		v := values[i]
		if v.Index != want.Index || v.Sub != want.Sub || string(v.Data) != m.values[[2]int{want.Index, want.Sub}] {
			t.Fatalf("Values: %+v at %d", v, i)
		}
		checkPlace(t, d, m, want.Index, want.Sub)
	}
}

// checkPlace holds what a dictionary tells of one place against the model.
func checkPlace(t *testing.T, d *Dict, m *model, index, sub int) {
	t.Helper()
	number, isThere := d.Find(index, sub)
	want := slices.IndexFunc(m.l, func(e api.Entry) bool {
		return e.Index == index && e.Sub == sub
	})
	if isThere != (want >= 0) || number != max(want, 0) {
		t.Fatalf("Find(%#x, %d): %d, %v, not %d", index, sub, number, isThere, want)
	}
	wantBytes, wantCode := m.get(index, sub)
	if b, code := d.Get(index, sub); string(b) != wantBytes || code != wantCode {
		t.Fatalf("Get(%#x, %d): %x, %#x, not %x, %#x", index, sub, b, code, wantBytes, wantCode)
	}
	wantBytes, wantThere := m.peek(index, sub)
	if b, isThere := d.Peek(index, sub); string(b) != wantBytes || isThere != wantThere {
		t.Fatalf("Peek(%#x, %d): %x, %v, not %x", index, sub, b, isThere, wantBytes)
	}
}

// breaks are ways in which an entry of many is wrong, and what Right says of it then.
func breaks() []struct {
	f func(e *api.Entry)
	e api.Errno
} {
	return []struct {
		f func(e *api.Entry)
		e api.Errno
	}{
		{func(e *api.Entry) { e.Index = 0 }, errRange},
		{func(e *api.Entry) { e.Index = 65536 }, errRange},
		{func(e *api.Entry) { e.Sub = 256 }, errRange},
		{func(e *api.Entry) { e.Sub = -1 }, errRange},
		{func(e *api.Entry) { e.Name = "" }, errName},
		{func(e *api.Entry) { e.Name = "seventeen_letters" }, errName},
		{func(e *api.Entry) { e.Type = 8 }, errType},
		{func(e *api.Entry) { e.Access = 5 }, errArg},
		{func(e *api.Entry) { e.High = 256 }, errArg},
		{func(e *api.Entry) { e.Max = 1 }, errArg},
		{func(e *api.Entry) { e.Default = nil }, errForm},
		{func(e *api.Entry) { e.Default = []byte{1, 2} }, errForm},
	}
}

// checkNone holds a refusal of New.
func checkNone(t *testing.T, l []api.Entry, e api.Errno, at int) {
	t.Helper()
	if d, gotE, gotAt := New(l); d != nil || gotE != e || gotAt != at {
		t.Fatalf("%d entries: %v, %d at %d, not %d at %d", len(l), d, gotE, gotAt, e, at)
	}
}

// P15.1: right entries, as few and as many as can be.
func TestNew(t *testing.T) {
	check(t, made(t, some()), newModel(some()))
	for n := range 97 {
		check(t, made(t, many(n)), newModel(many(n)))
	}
	check(t, made(t, nil), newModel(nil))
	check(t, made(t, []api.Entry{}), newModel(nil))
}

// P15.1: more than 96 are refused ahead of all else, whatever they are.
func TestNewBig(t *testing.T) {
	for _, n := range []int{97, 98, 128, 192, 255, 256, 257, 352, 1000} {
		checkNone(t, many(n), errBig, 96)
		checkNone(t, make([]api.Entry, n), errBig, 96)
		l := many(n)
		l[0].Name = ""
		l[1] = l[0]
		checkNone(t, l, errBig, 96)
	}
	checkNone(t, make([]api.Entry, 96), errRange, 0)
}

// P15.1: an entry that is wrong, at each number; and of two the first one.
func TestNewRight(t *testing.T) {
	for _, n := range []int{1, 2, 5, 96} {
		for i := range n {
			for _, b := range breaks() {
				l := many(n)
				b.f(&l[i])
				checkNone(t, l, b.e, i)
				for _, other := range breaks() {
					if i+1 < n {
						l[n-1] = many(n)[n-1]
						other.f(&l[n-1])
						checkNone(t, l, b.e, i)
					}
				}
			}
		}
	}
}

// P15.1: an entry that does not stand behind the one ahead of it, at each number.
func TestNewOrder(t *testing.T) {
	at := func(index, sub int) api.Entry {
		e := many(1)[0]
		e.Index, e.Sub = index, sub
		return e
	}
	for _, c := range []struct {
		a, b     api.Entry
		isBefore bool
	}{
		{at(5, 5), at(5, 5), false},
		{at(5, 5), at(5, 4), false},
		{at(5, 5), at(5, 6), true},
		{at(5, 5), at(4, 6), false},
		{at(5, 5), at(4, 5), false},
		{at(5, 5), at(6, 4), true},
		{at(5, 5), at(6, 5), true},
		{at(5, 255), at(6, 0), true},
		{at(6, 0), at(5, 255), false},
		{at(1, 0), at(65535, 255), true},
		{at(65535, 255), at(1, 0), false},
		{at(255, 0), at(256, 0), true},
		{at(256, 0), at(255, 0), false},
		{at(255, 1), at(1, 255), false},
	} {
		l := []api.Entry{c.a, c.b}
		if c.isBefore {
			check(t, made(t, l), newModel(l))
		} else {
			checkNone(t, l, errOrder, 1)
		}
	}
	for _, n := range []int{2, 3, 96} {
		for i := 1; i < n; i++ {
			l := many(n)
			l[i-1], l[i] = l[i], l[i-1]
			checkNone(t, l, errOrder, i)
			l = many(n)
			l[i].Index, l[i].Sub = l[i-1].Index, l[i-1].Sub
			checkNone(t, l, errOrder, i)
		}
	}
	// Only the one just ahead counts: the third one stands behind the second, and not behind the first; the second is told.
	checkNone(t, []api.Entry{at(9, 0), at(1, 0), at(5, 0)}, errOrder, 1)
}

// P15.1: of one entry Right's error is told ahead of the order; of two entries what is wrong of the first.
func TestNewTwoWrongs(t *testing.T) {
	for _, b := range breaks() {
		l := many(6)
		l[3] = l[2]
		b.f(&l[3])
		checkNone(t, l, b.e, 3)
		l = many(6)
		l[3] = l[2]
		b.f(&l[4])
		checkNone(t, l, errOrder, 3)
		l = many(6)
		b.f(&l[2])
		l[4] = l[3]
		checkNone(t, l, b.e, 2)
		l = many(6)
		l[2], l[3] = l[3], l[2]
		b.f(&l[2])
		checkNone(t, l, b.e, 2)
	}
}

// P15.1: lists with some places changed, held against the promise.
func TestNewAgainstModel(t *testing.T) {
	next := draw()
	said := map[api.Errno]int{}
	for range 20000 {
		l := many(1 + next(12))
		for range next(3) {
			e := &l[next(len(l))]
			switch next(3) {
			case 0:
				e.Index = 1 + next(30)
			case 1:
				e.Sub = next(256)
			case 2:
				pick(next, breaks()).f(e)
			}
		}
		wantE, wantAt := modelNew(l)
		said[wantE]++
		d, e, at := New(l)
		if (d == nil) != (wantE != ok) || e != wantE || at != wantAt {
			t.Fatalf("%+v: %d at %d, not %d at %d", l, e, at, wantE, wantAt)
		}
		if d != nil {
			check(t, d, newModel(l))
		}
	}
	for _, e := range []api.Errno{ok, errRange, errName, errType, errArg, errForm, errOrder} {
		if said[e] < 100 {
			t.Errorf("%d was asked for %d times", e, said[e])
		}
	}
}

// modelNew is P15.1 of entries like those of many, at most one way broken each time.
func modelNew(l []api.Entry) (api.Errno, int) {
	for i, e := range l {
		switch {
		case e.Index < 1 || e.Index > 65535 || e.Sub < 0 || e.Sub > 255:
			return errRange, i
		case e.Name != "x":
			return errName, i
		case e.Type != 5:
			return errType, i
		case e.Access != 4 || e.High != 255 || e.Max != 0:
			return errArg, i
		case len(e.Default) != 1:
			return errForm, i
		case i > 0 && e.Index*256+e.Sub <= l[i-1].Index*256+l[i-1].Sub:
			return errOrder, i
		}
	}
	return ok, 0
}

// P15.2: numbers at the ends, beyond them and far off.
func TestLenEntry(t *testing.T) {
	for _, n := range []int{0, 1, 2, 10, 95, 96} {
		l := many(n)
		d := made(t, l)
		if d.Len() != n {
			t.Errorf("%d entries: %d", n, d.Len())
		}
		for i := -100; i < 300; i++ {
			e, isThere := d.Entry(i)
			isIn := i >= 0 && i < n
			if isThere != isIn || isIn && !same(e, l[i]) || !isIn && !reflect.DeepEqual(e, api.Entry{}) {
				t.Fatalf("%d of %d: %+v, %v", i, n, e, isThere)
			}
		}
		for _, i := range extremes {
			if e, isThere := d.Entry(i); isThere || !reflect.DeepEqual(e, api.Entry{}) {
				t.Fatalf("%d of %d: %+v", i, n, e)
			}
		}
	}
}

// nearby are all numbers about those that places have, and far off.
func nearby(l []int) []int {
	out := slices.Clone(extremes)
	for _, x := range l {
		for _, y := range []int{x, x - 1, x + 1, -x, x + 256, x - 256, x + 65536, x - 65536, x + 1<<32, x - 1<<32, x << 8, x >> 8} {
			out = append(out, y)
		}
	}
	slices.Sort(out)
	return slices.Compact(out)
}

// P15.2 to P15.4: places that are there, about them and far off.
func TestPlaces(t *testing.T) {
	for _, l := range [][]api.Entry{some(), some()[3:4], some()[4:8], nil} {
		d, m := made(t, l), newModel(l)
		indices, subs := []int{0, 0x2000}, []int{0, 1, 2, 255}
		for _, e := range l {
			indices, subs = append(indices, e.Index), append(subs, e.Sub)
		}
		for _, index := range nearby(indices) {
			for _, sub := range nearby(subs) {
				checkPlace(t, d, m, index, sub)
				for _, b := range [][]byte{nil, {1}, {1, 2, 3, 4, 5, 6, 7, 8, 9}} {
					if got, want := d.May(index, sub, b), m.may(index, sub, b); got != want {
						t.Fatalf("May(%#x, %d, %x): %#x, not %#x", index, sub, b, got, want)
					}
					if _, code := m.at(index, sub); code == 0 {
						continue
					}
					if got, want := d.Set(index, sub, b), m.set(index, sub, b); got != want {
						t.Fatalf("Set(%#x, %d, %x): %#x, not %#x", index, sub, b, got, want)
					}
					if got, want := d.Poke(index, sub, b), m.poke(index, sub, b); got != want {
						t.Fatalf("Poke(%#x, %d, %x): %#x, not %#x", index, sub, b, got, want)
					}
				}
			}
		}
		check(t, d, m)
	}
}

// P15.2: every place of a table as great as can be.
func TestFindInMany(t *testing.T) {
	for n := range 97 {
		d, m := made(t, many(n)), newModel(many(n))
		for i := range n + 4 {
			e := many(i + 1)[i]
			for _, sub := range []int{e.Sub, e.Sub + 1, e.Sub - 1} {
				checkPlace(t, d, m, e.Index, sub)
				checkPlace(t, d, m, e.Index+1, sub)
			}
		}
	}
}

// P15.3: an Index that is there and one that is not, ahead of rights and of values.
func TestCodes(t *testing.T) {
	long, short := bytes.Repeat([]byte{1}, 300), []byte(nil)
	for _, c := range []struct {
		index, sub int
		b          []byte
		get        uint32
		set        uint32
		poke       uint32
	}{
		{0x1000, 0, []byte{1, 2, 3, 4}, 0, readOnly, 0},
		{0x1000, 0, short, 0, readOnly, tooShort},
		{0x1000, 0, long, 0, readOnly, tooLong},
		{0x1000, 1, long, noSub, noSub, noSub},
		{0x0fff, 0, long, noObject, noObject, noObject},
		{0x1001, 0, short, noObject, noObject, noObject},
		{0x0001, 255, []byte{1}, 0, readOnly, 0},
		{0x0001, 255, []byte{2}, 0, readOnly, noValue},
		{0x0001, 0, []byte{1}, noSub, noSub, noSub},
		{0x0001, 254, []byte{1}, noSub, noSub, noSub},
		{0x0001, 256, []byte{1}, noSub, noSub, noSub},
		{0x0002, 255, []byte{1}, noSub, noSub, noSub},
		{0x0000, 0, []byte{1}, noObject, noObject, noObject},
		{0x0002, 0, []byte{5}, writeOnly, 0, 0},
		{0x0002, 0, []byte{6}, writeOnly, tooHigh, tooHigh},
		{0x0002, 0, []byte{0xfb}, writeOnly, 0, 0},
		{0x0002, 0, []byte{0xfa}, writeOnly, tooLow, tooLow},
		{0x1017, 0, []byte{10, 0}, 0, 0, 0},
		{0x1017, 0, []byte{9, 0}, 0, tooLow, tooLow},
		{0x1017, 0, []byte{0xe8, 3}, 0, 0, 0},
		{0x1017, 0, []byte{0xe9, 3}, 0, tooHigh, tooHigh},
		{0x1017, 0, []byte{9}, 0, tooShort, tooShort},
		{0x1017, 0, []byte{9, 0, 0}, 0, tooLong, tooLong},
		{0x2000, 0, []byte{9}, noSub, noSub, noSub},
		{0x2000, 1, []byte{1, 2, 3, 4}, writeOnly, 0, 0},
		{0x2000, 1, short, writeOnly, 0, 0},
		{0x2000, 1, []byte{1, 2, 3, 4, 5}, writeOnly, tooLong, tooLong},
		{0x2000, 2, []byte{9}, noSub, noSub, noSub},
		{0x2000, 3, []byte("abcdefgh"), 0, 0, 0},
		{0x2000, 3, []byte("abcdefghi"), 0, tooLong, tooLong},
		{0x2000, 3, []byte("a\n"), 0, noValue, noValue},
		{0x2000, 4, []byte("a\n"), 0, readOnly, noValue},
		{0x2000, 4, []byte("ab"), 0, readOnly, 0},
		{0x2000, 255, long, 0, readOnly, tooLong},
		{0x2000, 255, long[:256], 0, readOnly, 0},
		{0xffff, 255, []byte{0xfe, 0xff}, 0, 0, 0},
		{0xffff, 255, []byte{0, 0}, 0, tooHigh, tooHigh},
		{0xffff, 254, []byte{0, 0}, noSub, noSub, noSub},
		{0x10000, 0, []byte{0, 0}, noObject, noObject, noObject},
	} {
		d := made(t, some())
		was, isThere := d.Peek(c.index, c.sub)
		if isThere != (c.poke != noSub && c.poke != noObject) {
			t.Errorf("%#x:%d: Peek %v", c.index, c.sub, isThere)
		}
		got, code := d.Get(c.index, c.sub)
		if code != c.get || code != 0 && got != nil || code == 0 && !bytes.Equal(got, was) {
			t.Errorf("%#x:%d: Get %x, %#x", c.index, c.sub, got, code)
		}
		if code := d.May(c.index, c.sub, c.b); code != c.set {
			t.Errorf("%#x:%d, %x: May %#x, not %#x", c.index, c.sub, c.b, code, c.set)
		}
		check(t, d, newModel(some()))
		if code := d.Set(c.index, c.sub, c.b); code != c.set {
			t.Errorf("%#x:%d, %x: Set %#x, not %#x", c.index, c.sub, c.b, code, c.set)
		}
		checkOnly(t, d, c.index, c.sub, c.b, c.set == 0)
		d = made(t, some())
		if code := d.Poke(c.index, c.sub, c.b); code != c.poke {
			t.Errorf("%#x:%d, %x: Poke %#x, not %#x", c.index, c.sub, c.b, code, c.poke)
		}
		checkOnly(t, d, c.index, c.sub, c.b, c.poke == 0)
	}
}

// checkOnly tells whether just that place of some has the bytes, if they were set, and all else is as it was.
func checkOnly(t *testing.T, d *Dict, index, sub int, b []byte, isSet bool) {
	t.Helper()
	m := newModel(some())
	if isSet {
		m.values[[2]int{index, sub}] = string(b)
	}
	check(t, d, m)
}

// P15.4: what may not be written or read is poked and peeked.
func TestPeekPoke(t *testing.T) {
	d := made(t, some())
	for _, e := range some() {
		b := slices.Clone(e.Default)
		switch e.Type {
		case api.TText, api.TBytes, api.TDomain:
			b = []byte("x")
		case api.TBool, api.TUns32, api.TUns16:
			b[0]--
		case api.TInt16, api.TInt8:
			b[0] = 0xfe
		}
		if code := d.Poke(e.Index, e.Sub, b); code != 0 {
			t.Errorf("%#x:%d: %#x", e.Index, e.Sub, code)
		}
		if got, isThere := d.Peek(e.Index, e.Sub); !isThere || !bytes.Equal(got, b) {
			t.Errorf("%#x:%d: %x, %v", e.Index, e.Sub, got, isThere)
		}
	}
}

// P15.5: all values in order, with their places; the defaults again behind Reset, as often as it is asked.
func TestValuesReset(t *testing.T) {
	d, m := made(t, some()), newModel(some())
	for range 3 {
		for _, b := range [][]byte{{1, 2}, {1}, []byte("yes"), {3}} {
			for _, e := range some() {
				d.Poke(e.Index, e.Sub, b)
				m.poke(e.Index, e.Sub, b)
				check(t, d, m)
			}
		}
		d.Reset()
		m.reset()
		check(t, d, m)
		d.Reset()
		check(t, d, m)
	}
}

// P15.5: a value that is empty, where the Default is not, and the other way round.
func TestEmptyValues(t *testing.T) {
	d, m := made(t, some()), newModel(some())
	for _, b := range [][]byte{nil, {}} {
		if d.Set(0x2000, 3, b) != 0 || m.set(0x2000, 3, b) != 0 {
			t.Error("an empty text")
		}
		check(t, d, m)
		if d.Set(0x2000, 1, []byte{0}) != 0 || m.set(0x2000, 1, []byte{0}) != 0 {
			t.Error("a byte 0")
		}
		check(t, d, m)
		d.Reset()
		m.reset()
		check(t, d, m)
	}
}

// P15.5: a copy is alike in all, and what is done to one is not seen in the other.
func TestCopy(t *testing.T) {
	d, m := made(t, some()), newModel(some())
	d.Set(0x1017, 0, []byte{30, 0})
	m.set(0x1017, 0, []byte{30, 0})
	c, cm := d.Copy(), m.copied()
	if c == d {
		t.Fatal("the same one")
	}
	check(t, c, cm)
	c.Set(0x1017, 0, []byte{40, 0})
	cm.set(0x1017, 0, []byte{40, 0})
	check(t, d, m)
	check(t, c, cm)
	d.Set(0x2000, 3, []byte("ho"))
	m.set(0x2000, 3, []byte("ho"))
	check(t, d, m)
	check(t, c, cm)
	d.Reset()
	m.reset()
	check(t, d, m)
	check(t, c, cm)
	d.Poke(0x1000, 0, []byte{9, 9, 9, 9})
	m.poke(0x1000, 0, []byte{9, 9, 9, 9})
	c.Reset()
	cm.reset()
	check(t, d, m)
	check(t, c, cm)
	check(t, c.Copy(), cm)
}

// P15.5: a copy of an empty one is one, too.
func TestCopyOfEmpty(t *testing.T) {
	c := made(t, nil).Copy()
	if c == nil {
		t.Fatal("nil")
	}
	check(t, c, newModel(nil))
	if _, code := c.Get(1, 0); code != noObject {
		t.Errorf("%#x", code)
	}
}

// anyBytes are bytes of any kind that may be a value of some entry.
func anyBytes(next func(int) int) []byte {
	b := make([]byte, pick(next, []int{0, 1, 1, 1, 2, 2, 2, 3, 4, 4, 5, 8, 8, 9, 255, 256, 257}))
	letters := next(2) == 0
	for i := range b {
		b[i] = pick(next, []byte{0, 0, 1, 2, 3, 5, 10, 127, 128, 254, 255, byte(next(256))})
		if letters {
			b[i] = byte(32 + next(95))
		}
	}
	return b
}

// anyPlace is a place, most often one that is there.
func anyPlace(next func(int) int, l []api.Entry) (int, int) {
	e := pick(next, l)
	switch next(12) {
	case 0:
		return e.Index, pick(next, l).Sub
	case 1:
		return e.Index, e.Sub + 1 - 2*next(2)
	case 2:
		return e.Index + 1 - 2*next(2), e.Sub
	case 3:
		return pick(next, extremes), e.Sub
	case 4:
		return e.Index, pick(next, extremes)
	}
	return e.Index, e.Sub
}

// P15.6: long rows of all calls on dictionaries and their copies, held against the model; each value is one of its entry.
func TestLaws(t *testing.T) {
	next := draw()
	codes := map[uint32]int{}
	for range 60 {
		ds, ms := []*Dict{made(t, some())}, []*model{newModel(some())}
		for range 400 {
			k := next(len(ds))
			d, m := ds[k], ms[k]
			index, sub := anyPlace(next, m.l)
			b := anyBytes(next)
			var got, want uint32
			switch next(16) {
			case 0:
				d.Reset()
				m.reset()
			case 1:
				if len(ds) < 4 {
					ds, ms = append(ds, d.Copy()), append(ms, m.copied())
				}
			case 2, 3:
				got, want = d.May(index, sub, b), m.may(index, sub, b)
			case 4, 5, 6, 7, 8, 9:
				got, want = d.Set(index, sub, b), m.set(index, sub, b)
			default:
				got, want = d.Poke(index, sub, b), m.poke(index, sub, b)
			}
			if got != want {
				t.Fatalf("%#x:%d, %x: %#x, not %#x", index, sub, b, got, want)
			}
			codes[got]++
			checkPlace(t, d, m, index, sub)
			check(t, d, m)
		}
		for k, d := range ds {
			check(t, d, ms[k])
			for i, v := range d.Values() {
				if code := wrong(some()[i], v.Data); code != 0 {
					t.Fatalf("%+v: %#x", v, code)
				}
			}
		}
	}
	for _, c := range []uint32{0, readOnly, noObject, noSub, noValue, tooHigh, tooLow, tooLong, tooShort} {
		if codes[c] < 20 {
			t.Errorf("%#x was asked for %d times", c, codes[c])
		}
	}
}

// R1: nil, and one that New did not give, answer nothing.
func TestOfNil(t *testing.T) {
	for _, d := range []*Dict{nil, {}, new(Dict)} {
		for range 2 {
			if d.Len() != 0 || d.Values() != nil || d.Copy() != nil {
				t.Error("Len, Values, Copy")
			}
			for _, x := range []int{0, 1, -1, 0x1017, math.MinInt, math.MaxInt} {
				if e, isThere := d.Entry(x); isThere || !reflect.DeepEqual(e, api.Entry{}) {
					t.Error("Entry")
				}
				if k, isThere := d.Find(x, 0); isThere || k != 0 {
					t.Error("Find")
				}
				if b, code := d.Get(x, 0); b != nil || code != inside {
					t.Errorf("Get: %#x", code)
				}
				if b, isThere := d.Peek(x, 0); b != nil || isThere {
					t.Error("Peek")
				}
				for _, b := range [][]byte{nil, {1, 0}} {
					if d.Set(x, 0, b) != inside || d.May(x, 0, b) != inside || d.Poke(x, 0, b) != inside {
						t.Error("Set, May, Poke")
					}
				}
			}
			d.Reset()
		}
	}
}

// rooms are the bytes of entries' Defaults, with the room behind them.
func rooms(l []api.Entry) [][]byte {
	var out [][]byte
	for _, e := range l {
		out = append(out, slices.Clone(e.Default[:cap(e.Default)]))
	}
	return out
}

// R4: what is handed in is neither changed nor kept, nor the room behind it.
func TestArgumentsAreLeft(t *testing.T) {
	l := append(some(), api.Entry{Index: 7, Name: "behind", Default: []byte("behind")})
	for i := range l {
		l[i].Default = append(l[i].Default, 7, 7, 7, 7)[:len(l[i].Default)]
	}
	was, wasRooms := slices.Clone(l), rooms(l)
	d, m := made(t, l[:len(l)-1]), newModel(some())
	behind := []byte("\x1e\x00behind")
	for _, f := range []func(int, int, []byte) uint32{d.May, d.Set, d.Poke} {
		if f(0x1017, 0, behind[:2]) != 0 || f(0x1018, 0, behind[:2]) != noObject {
			t.Error("a value")
		}
	}
	d.Reset()
	d.Set(0x1017, 0, behind[:2])
	m.set(0x1017, 0, []byte{30, 0})
	if string(behind) != "\x1e\x00behind" {
		t.Errorf("%q", behind)
	}
	if !reflect.DeepEqual(l, was) || !reflect.DeepEqual(rooms(l), wasRooms) {
		t.Errorf("%+v", l)
	}
	scribble(behind)
	for i := range l {
		scribble(l[i].Default)
		l[i] = api.Entry{}
	}
	check(t, d, m)
	d.Reset()
	m.reset()
	check(t, d, m)
}

// scribble writes over bytes, and over the room behind them.
func scribble(b []byte) {
	b = b[:cap(b)]
	for i := range b {
		b[i] ^= 0xff
	}
}

// R4: what is answered is new memory, spare room too; no two lists of an answer share any.
func TestAnswersAreNewMemory(t *testing.T) {
	d, m := made(t, some()), newModel(some())
	for _, x := range []struct {
		index int
		b     []byte
	}{{0x1017, []byte{30, 0}}, {0x1018, nil}} {
		d.Set(x.index, 0, x.b)
		m.set(x.index, 0, x.b)
		for range 2 {
			for i, e := range some() {
				b, _ := d.Get(e.Index, e.Sub)
				scribble(b)
				b, _ = d.Peek(e.Index, e.Sub)
				scribble(b)
				own, _ := d.Entry(i)
				scribble(own.Default)
				check(t, d, m)
			}
			c := d.Copy()
			values := d.Values()
			for i := range values {
				scribble(values[i].Data)
				for j, v := range values {
					if want := m.values[[2]int{v.Index, v.Sub}]; j > i && string(v.Data) != want {
						t.Fatalf("%d is seen in %d", i, j)
					}
				}
			}
			for i := range values[:cap(values)] {
				values[:cap(values)][i] = api.Value{}
			}
			check(t, d, m)
			check(t, c, m)
			d.Reset()
			m.reset()
			check(t, d, m)
		}
	}
}

// R5: the same calls are answered the same, whatever is done to another one between.
func TestOneAnswer(t *testing.T) {
	next := draw()
	a, b, other := made(t, some()), made(t, some()), made(t, some())
	for range 5000 {
		index, sub := anyPlace(next, some())
		x := anyBytes(next)
		f := (*Dict).Set
		if next(2) == 0 {
			f = (*Dict).Poke
		}
		first := f(a, index, sub, x)
		other.Poke(index, sub, anyBytes(next))
		if second := f(b, index, sub, x); first != second {
			t.Fatalf("%#x:%d, %x: %#x, %#x", index, sub, x, first, second)
		}
	}
	if !reflect.DeepEqual(a.Values(), b.Values()) {
		t.Error("the values")
	}
}

// The chapter's examples.
func TestExamples(t *testing.T) {
	d := made(t, []api.Entry{{Index: 0x1017, Name: "beat", Type: api.TUns16, Access: api.AccBoth, Low: 10, High: 1000, Default: []byte{10, 0}}})
	if code := d.Set(0x1017, 0, []byte{0x14, 0}); code != 0 {
		t.Errorf("Set: %#x", code)
	}
	if b, code := d.Get(0x1017, 0); code != 0 || !bytes.Equal(b, []byte{0x14, 0}) {
		t.Errorf("Get: %x, %#x", b, code)
	}
	if code := d.Set(0x1017, 0, []byte{1, 0}); code != api.AbLow {
		t.Errorf("1: %#x", code)
	}
	if _, code := d.Get(0x1017, 1); code != api.AbNoSub {
		t.Errorf("sub 1: %#x", code)
	}
	if _, code := d.Get(0x1018, 0); code != api.AbNoObject {
		t.Errorf("0x1018: %#x", code)
	}
}
