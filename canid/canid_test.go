package canid

import (
	"math"
	"testing"

	"wheelhouse/api"
)

// draw gives numbers without a pattern, the same ones each time.
func draw() func() uint32 {
	x := uint32(2463534242)
	return func() uint32 {
		x ^= x << 13
		x ^= x >> 17
		x ^= x << 5
		return x
	}
}

// model is the chapter's table, read the other way round: an Id's name by its function code, the highest four of eleven bits, and its Node, the others.
func model(id int) (Name, bool) {
	if id < 0 || id > 0x7ff {
		return Name{}, false
	}
	code, node := id/128, id%128
	if node == 0 {
		switch code {
		case 0:
			return Name{1, 0, 0}, true
		case 1:
			return Name{2, 0, 0}, true
		case 2:
			return Name{3, 0, 0}, true
		}
		return Name{}, false
	}
	switch code {
	case 1:
		return Name{4, 0, node}, true
	case 3, 5, 7, 9:
		return Name{5, (code - 1) / 2, node}, true
	case 4, 6, 8, 10:
		return Name{6, (code - 2) / 2, node}, true
	case 11:
		return Name{7, 0, node}, true
	case 12:
		return Name{8, 0, node}, true
	case 14:
		return Name{9, 0, node}, true
	}
	return Name{}, false
}

// extremes are numbers outside of all Ids, also such as come near to one where a difference wraps round, or where high bits are lost.
func extremes() []int {
	return []int{
		math.MinInt, math.MinInt + 1, math.MinInt + 0x80, math.MinInt + 0x81, math.MinInt + 0x181, math.MinInt + 0x7ff,
		math.MaxInt, math.MaxInt - 1, math.MaxInt - 0x7f, math.MaxInt - 0x7ff,
		math.MinInt32, math.MaxInt32, -1 << 32, 1 << 32, 1<<32 + 1, 1<<32 + 0x80, 1<<32 + 0x181, 1<<32 + 2047,
		-65536, 65536, 65537, 65536 + 0x181, 4096, 4096 + 0x181, 2048 + 0x181,
	}
}

// P11.1: the chapter's table, row by row, at the first and the last of each.
func TestTable(t *testing.T) {
	for _, c := range []struct {
		id int
		n  Name
	}{
		{0, Name{Nmt, 0, 0}},
		{0x80, Name{Sync, 0, 0}},
		{0x100, Name{Time, 0, 0}},
		{0x81, Name{Emcy, 0, 1}},
		{0xff, Name{Emcy, 0, 127}},
		{0x181, Name{Tpdo, 1, 1}},
		{0x1ff, Name{Tpdo, 1, 127}},
		{0x281, Name{Tpdo, 2, 1}},
		{0x2ff, Name{Tpdo, 2, 127}},
		{0x381, Name{Tpdo, 3, 1}},
		{0x3ff, Name{Tpdo, 3, 127}},
		{0x481, Name{Tpdo, 4, 1}},
		{0x4ff, Name{Tpdo, 4, 127}},
		{0x201, Name{Rpdo, 1, 1}},
		{0x27f, Name{Rpdo, 1, 127}},
		{0x301, Name{Rpdo, 2, 1}},
		{0x37f, Name{Rpdo, 2, 127}},
		{0x401, Name{Rpdo, 3, 1}},
		{0x47f, Name{Rpdo, 3, 127}},
		{0x501, Name{Rpdo, 4, 1}},
		{0x57f, Name{Rpdo, 4, 127}},
		{0x581, Name{SdoOut, 0, 1}},
		{0x5ff, Name{SdoOut, 0, 127}},
		{0x601, Name{SdoIn, 0, 1}},
		{0x67f, Name{SdoIn, 0, 127}},
		{0x701, Name{Heart, 0, 1}},
		{0x77f, Name{Heart, 0, 127}},
	} {
		if id, e := Id(c.n); id != c.id || e != api.OK {
			t.Errorf("Id(%v) = %#x, %d; want %#x", c.n, id, e, c.id)
		}
		if n, ok := Of(c.id); n != c.n || !ok {
			t.Errorf("Of(%#x) = %v, %v; want %v", c.id, n, ok, c.n)
		}
	}
}

// The numbers of the kinds are part of the face.
func TestKinds(t *testing.T) {
	got := [...]int{Nmt, Sync, Time, Emcy, Tpdo, Rpdo, SdoOut, SdoIn, Heart}
	for i, k := range got {
		if k != i+1 {
			t.Errorf("kind %d is %d", i+1, k)
		}
	}
}

// P11.1: all Ids, those about them, and such as are far from them.
func TestOfAll(t *testing.T) {
	ids := extremes()
	for id := -5000; id <= 70000; id++ {
		ids = append(ids, id)
	}
	for _, id := range ids {
		want, wantOk := model(id)
		if n, ok := Of(id); n != want || ok != wantOk {
			t.Errorf("Of(%#x) = %v, %v; want %v, %v", id, n, ok, want, wantOk)
		}
	}
}

// names are the table's, by their Ids, as the model has them.
func names() map[Name]int {
	all := map[Name]int{}
	for id := range 0x800 {
		if n, ok := model(id); ok {
			all[n] = id
		}
	}
	return all
}

// P11.1: all names about those of the table, and with numbers that are far from theirs.
func TestIdAll(t *testing.T) {
	all := names()
	check := func(n Name) {
		want, isThere := all[n]
		wantE := api.OK
		if !isThere {
			wantE = api.ErrArg
		}
		if id, e := Id(n); id != want || e != wantE {
			t.Errorf("Id(%v) = %#x, %d; want %#x, %d", n, id, e, want, wantE)
		}
	}
	for kind := -3; kind <= 20; kind++ {
		for num := -3; num <= 10; num++ {
			for node := -130; node <= 260; node++ {
				check(Name{kind, num, node})
			}
		}
	}
	far := append(extremes(), -1, 0, 1, 2, 4, 5, 9, 127, 128, 256, 257, 256+127)
	for _, a := range far {
		for _, b := range far {
			for _, c := range far {
				check(Name{a, b, c})
			}
		}
	}
}

// P11.1: what is wrong by just one of the three numbers.
func TestIdWrong(t *testing.T) {
	for _, n := range []Name{
		{},
		{0, 0, 1},
		{-1, 0, 0},
		{10, 0, 1},
		{Nmt, 0, 1},
		{Nmt, 1, 0},
		{Nmt, 0, -1},
		{Sync, 0, 1},
		{Sync, 1, 0},
		{Time, 0, 127},
		{Time, -1, 0},
		{Emcy, 0, 0},
		{Emcy, 0, 128},
		{Emcy, 0, -1},
		{Emcy, 1, 1},
		{Tpdo, 0, 1},
		{Tpdo, 5, 1},
		{Tpdo, -1, 1},
		{Tpdo, 1, 0},
		{Tpdo, 4, 128},
		{Rpdo, 0, 1},
		{Rpdo, 5, 1},
		{Rpdo, 1, 0},
		{Rpdo, 4, 128},
		{SdoOut, 0, 0},
		{SdoOut, 0, 128},
		{SdoOut, 1, 1},
		{SdoIn, 0, 0},
		{SdoIn, 0, 128},
		{SdoIn, 1, 1},
		{Heart, 0, 0},
		{Heart, 0, 128},
		{Heart, 1, 1},
	} {
		if id, e := Id(n); id != 0 || e != api.ErrArg {
			t.Errorf("Id(%v) = %#x, %d", n, id, e)
		}
	}
}

// P11.2: the edges of each of the spans.
func TestRestricted(t *testing.T) {
	for _, c := range []struct {
		id   int
		want bool
	}{
		{-1, true}, {0, true}, {1, true}, {0x7f, true}, {0x80, false}, {0x81, false},
		{0x100, false}, {0x101, true}, {0x102, true}, {0x17f, true}, {0x180, true}, {0x181, false},
		{0x57f, false}, {0x580, false}, {0x581, true}, {0x5ff, true}, {0x600, false},
		{0x601, true}, {0x67f, true}, {0x680, false},
		{0x6df, false}, {0x6e0, true}, {0x6ff, true}, {0x700, false},
		{0x701, true}, {0x77f, true}, {0x780, true}, {0x7ff, true}, {0x800, true}, {0x801, true},
	} {
		if got := Restricted(c.id); got != c.want {
			t.Errorf("Restricted(%#x) = %v", c.id, got)
		}
	}
	for _, id := range extremes() {
		if !Restricted(id) {
			t.Errorf("Restricted(%d) = false", id)
		}
	}
}

// P11.2: all Ids, against what is left between the spans.
func TestRestrictedAll(t *testing.T) {
	for id := -5000; id <= 70000; id++ {
		free := id >= 0x80 && id <= 0x100 ||
			id > 0x180 && id <= 0x580 ||
			id == 0x600 ||
			id >= 0x680 && id < 0x6e0 ||
			id == 0x700
		if got := Restricted(id); got == free {
			t.Errorf("Restricted(%#x) = %v", id, got)
		}
	}
}

// P11.3
func TestSplit(t *testing.T) {
	for _, c := range []struct {
		w    uint32
		want Cob
		e    api.Errno
	}{
		{0, Cob{}, api.OK},
		{1, Cob{Id: 1}, api.OK},
		{0x80, Cob{Id: 0x80}, api.OK},
		{0x7ff, Cob{Id: 2047}, api.OK},
		{0x80000000, Cob{Off: true}, api.OK},
		{0x40000000, Cob{NoRemote: true}, api.OK},
		{0xc0000000, Cob{Off: true, NoRemote: true}, api.OK},
		{0x80000205, Cob{Off: true, Id: 0x205}, api.OK},
		{0x40000205, Cob{NoRemote: true, Id: 0x205}, api.OK},
		{0xc00007ff, Cob{Off: true, NoRemote: true, Id: 2047}, api.OK},
		{0x800, Cob{}, api.ErrForm},
		{0x1000, Cob{}, api.ErrForm},
		{0x10000000, Cob{}, api.ErrForm},
		{0x20000000, Cob{}, api.ErrForm},
		{0xa0000185, Cob{}, api.ErrForm},
		{0xc0000985, Cob{}, api.ErrForm},
		{0x3ffff800, Cob{}, api.ErrForm},
		{0xffffffff, Cob{}, api.ErrForm},
	} {
		if got, e := Split(c.w); got != c.want || e != c.e {
			t.Errorf("Split(%#x) = %v, %d; want %v, %d", c.w, got, e, c.want, c.e)
		}
	}
}

// P11.3: each choice of the bits above the Id, with some Ids; and words without a pattern.
func TestSplitAll(t *testing.T) {
	check := func(w uint32) {
		var want Cob
		wantE := api.ErrForm
		if w<<2>>13 == 0 {
			want, wantE = Cob{Off: w>>31 == 1, NoRemote: w>>30%2 == 1, Id: int(w % 2048)}, api.OK
		}
		if got, e := Split(w); got != want || e != wantE {
			t.Fatalf("Split(%#x) = %v, %d; want %v, %d", w, got, e, want, wantE)
		}
	}
	for high := range uint32(1 << 21) {
		for _, id := range []uint32{0, 1, 0x185, 2047} {
			check(high<<11 | id)
		}
	}
	next := draw()
	for range 1000000 {
		check(next())
	}
}

// P11.3
func TestJoin(t *testing.T) {
	for _, c := range []struct {
		c    Cob
		want uint32
		e    api.Errno
	}{
		{Cob{}, 0, api.OK},
		{Cob{Id: 1}, 1, api.OK},
		{Cob{Id: 2047}, 0x7ff, api.OK},
		{Cob{Off: true}, 0x80000000, api.OK},
		{Cob{NoRemote: true}, 0x40000000, api.OK},
		{Cob{true, false, 0x205}, 0x80000205, api.OK},
		{Cob{false, true, 0x205}, 0x40000205, api.OK},
		{Cob{true, true, 2047}, 0xc00007ff, api.OK},
		{Cob{Id: -1}, 0, api.ErrRange},
		{Cob{Id: 2048}, 0, api.ErrRange},
		{Cob{true, true, -1}, 0, api.ErrRange},
		{Cob{true, true, 2048}, 0, api.ErrRange},
		{Cob{true, false, 1 << 32}, 0, api.ErrRange},
	} {
		if got, e := Join(c.c); got != c.want || e != c.e {
			t.Errorf("Join(%v) = %#x, %d; want %#x, %d", c.c, got, e, c.want, c.e)
		}
	}
}

// P11.3: Ids that can't be, and such as are right in their lowest bits alone.
func TestJoinWrong(t *testing.T) {
	var ids []int
	for id := -5000; id < 0; id++ {
		ids = append(ids, id)
	}
	for id := 2048; id <= 70000; id++ {
		ids = append(ids, id)
	}
	for _, id := range append(ids, extremes()...) {
		for k := range 4 {
			c := Cob{Off: k&1 != 0, NoRemote: k&2 != 0, Id: id}
			if w, e := Join(c); w != 0 || e != api.ErrRange {
				t.Errorf("Join(%v) = %#x, %d", c, w, e)
			}
		}
	}
}

// P11.4: names and Ids, there and back; no Id stands for two names.
func TestNamesThereAndBack(t *testing.T) {
	taken := map[int]Name{}
	for kind := 0; kind <= 10; kind++ {
		for num := -1; num <= 6; num++ {
			for node := -1; node <= 130; node++ {
				n := Name{kind, num, node}
				id, e := Id(n)
				if e != api.OK {
					continue
				}
				if other, isTaken := taken[id]; isTaken {
					t.Errorf("%#x is %v and %v", id, other, n)
				}
				taken[id] = n
				if back, ok := Of(id); back != n || !ok {
					t.Errorf("%v, %#x, %v, %v", n, id, back, ok)
				}
			}
		}
	}
	for id := range 2048 {
		n, ok := Of(id)
		if !ok {
			if other, isTaken := taken[id]; isTaken {
				t.Errorf("%v has %#x, which has no name", other, id)
			}
			continue
		}
		if back, e := Id(n); back != id || e != api.OK {
			t.Errorf("%#x, %v, %#x, %d", id, n, back, e)
		}
	}
	if len(taken) != 3+12*127 {
		t.Errorf("%d names", len(taken))
	}
}

// P11.4: words, there and back, all that have the form.
func TestWordsThereAndBack(t *testing.T) {
	for k := range uint32(4) {
		for id := range 2048 {
			w := k<<30 | uint32(id)
			c, e := Split(w)
			if e != api.OK || c.Id != id {
				t.Fatalf("Split(%#x) = %v, %d", w, c, e)
			}
			if back, e := Join(c); back != w || e != api.OK {
				t.Fatalf("%#x, %v, %#x, %d", w, c, back, e)
			}
			c = Cob{Off: k&1 != 0, NoRemote: k&2 != 0, Id: id}
			w, e = Join(c)
			if e != api.OK {
				t.Fatalf("Join(%v) = %#x, %d", c, w, e)
			}
			if back, e := Split(w); back != c || e != api.OK {
				t.Fatalf("%v, %#x, %v, %d", c, w, back, e)
			}
		}
	}
}

// R5: the same arguments have the same answer, whatever was called between.
func TestOneAnswer(t *testing.T) {
	next := draw()
	for range 2000 {
		id := int(next()>>3) % 3000
		name, ok := Of(id)
		isRestricted := Restricted(id)
		w := next() & 0xc00017ff
		cob, e := Split(w)
		Of(int(next()))
		Id(Name{int(next() >> 28), int(next() >> 29), int(next() >> 24)})
		Restricted(int(next() >> 20))
		Split(next())
		Join(Cob{Off: true, Id: int(next() >> 20)})
		if again, okAgain := Of(id); again != name || okAgain != ok {
			t.Fatalf("Of(%#x) = %v, %v, then %v, %v", id, name, ok, again, okAgain)
		}
		if Restricted(id) != isRestricted {
			t.Fatalf("Restricted(%#x) was %v", id, isRestricted)
		}
		if again, eAgain := Split(w); again != cob || eAgain != e {
			t.Fatalf("Split(%#x) = %v, %d, then %v, %d", w, cob, e, again, eAgain)
		}
	}
}

// The chapter's examples.
func TestExamples(t *testing.T) {
	if id, e := Id(Name{Tpdo, 1, 5}); id != 0x185 || e != api.OK {
		t.Error(id, e)
	}
	if n, ok := Of(0x205); n != (Name{Rpdo, 1, 5}) || !ok {
		t.Error(n, ok)
	}
	if n, ok := Of(0x80); n != (Name{Kind: Sync}) || !ok {
		t.Error(n, ok)
	}
	if n, ok := Of(0x180); n != (Name{}) || ok {
		t.Error(n, ok)
	}
	if id, e := Id(Name{Emcy, 0, 128}); id != 0 || e != api.ErrArg {
		t.Error(id, e)
	}
	if c, e := Split(0xc0000185); c != (Cob{true, true, 0x185}) || e != api.OK {
		t.Error(c, e)
	}
	if c, e := Split(0x20000000); c != (Cob{}) || e != api.ErrForm {
		t.Error(c, e)
	}
}
