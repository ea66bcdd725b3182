package clock

import (
	"fmt"
	"math"
	"slices"
	"testing"

	"wheelhouse/api"
)

// draw gives numbers below n without a pattern, the same ones each time.
func draw() func(n int) int {
	x := uint32(2463534242)
	return func(n int) int {
		x ^= x << 13
		x ^= x >> 17
		x ^= x << 5
		return int(x>>3) % n
	}
}

// set is when a timer was set, and how.
type set struct {
	at, ticks int
	isEvery   bool
}

// model is a clock by a way that shares nothing with the package: nothing is counted down, all is worked out from the tick at which a timer was set.
type model struct {
	now  int
	sets map[int]set
}

func newModel() *model {
	return &model{sets: map[int]set{}}
}

func (m *model) set(name, ticks int, isEvery bool) api.Errno {
	if name < 0 || name > 15 || ticks <= 0 || ticks > 1048576 {
		return api.ErrArg
	}
	m.sets[name] = set{m.now, ticks, isEvery}
	return api.OK
}

func (m *model) left(name int) (int, bool) {
	s, is := m.sets[name]
	gone := m.now - s.at
	switch {
	case !is || !s.isEvery && gone >= s.ticks:
		return 0, false
	case s.isEvery:
		return s.ticks - gone%s.ticks, true
	}
	return s.ticks - gone, true
}

func (m *model) next() (int, bool) {
	var all []int
	for name := range 16 {
		if n, ok := m.left(name); ok {
			all = append(all, n)
		}
	}
	if all == nil {
		return 0, false
	}
	return slices.Min(all), true
}

func (m *model) tick() []int {
	m.now++
	var out []int
	for name := range 16 {
		s, is := m.sets[name]
		gone := m.now - s.at
		if is && (gone == s.ticks || s.isEvery && gone%s.ticks == 0) {
			out = append(out, name)
		}
	}
	return out
}

func (m *model) copied() *model {
	c := &model{now: m.now, sets: map[int]set{}}
	for name, s := range m.sets {
		c.sets[name] = s
	}
	return c
}

// far are numbers that no name and no number of ticks is, though parts of them might be.
func far() []int {
	return []int{math.MinInt, math.MinInt + 1, math.MinInt32, -1 << 32, -1<<32 + 3, -1 << 20, 1<<20 + 1, 1<<21 + 3, 1<<31 + 3, 1 << 32, 1<<32 + 3, math.MaxInt32, math.MaxInt - 1, math.MaxInt}
}

// check holds all that a clock tells without a change against the model, of names that are none, too.
func check(t *testing.T, what string, c *Clock, m *model) {
	t.Helper()
	if c == nil {
		t.Fatalf("%s: nil", what)
	}
	for name := -2; name < 18; name++ {
		checkLeft(t, what, c, m, name)
	}
	want, wantOk := m.next()
	if n, ok := c.Next(); n != want || ok != wantOk {
		t.Fatalf("%s: next %d, %v; want %d, %v", what, n, ok, want, wantOk)
	}
}

func checkLeft(t *testing.T, what string, c *Clock, m *model, name int) {
	t.Helper()
	want, wantOk := m.left(name)
	if n, ok := c.Left(name); n != want || ok != wantOk {
		t.Fatalf("%s: left of %d: %d, %v; want %d, %v", what, name, n, ok, want, wantOk)
	}
}

func checkTick(t *testing.T, what string, c *Clock, m *model) {
	t.Helper()
	want := m.tick()
	if l := c.Tick(); !slices.Equal(l, want) {
		t.Fatalf("%s: tick %d: %v; want %v", what, m.now, l, want)
	}
}

// checkSet sets a timer, once or again and again.
func checkSet(t *testing.T, what string, c *Clock, m *model, name, ticks int, isEvery bool) {
	t.Helper()
	want := m.set(name, ticks, isEvery)
	call := c.Set
	if isEvery {
		call = c.Every
	}
	if e := call(name, ticks); e != want {
		t.Fatalf("%s: (%d, %d), every %v: %d; want %d", what, name, ticks, isEvery, e, want)
	}
}

func stop(c *Clock, m *model, name int) {
	c.Stop(name)
	delete(m.sets, name)
}

// P13.1: of a new clock no timer runs, and none runs out.
func TestNew(t *testing.T) {
	c, m := New(), newModel()
	check(t, "new", c, m)
	for range 100 {
		checkTick(t, "new", c, m)
	}
	check(t, "behind ticks", c, m)
	if New() == c {
		t.Error("one clock is answered twice")
	}
}

// P13.1: each name about those that are, and such as are far from them; what is refused changes nothing.
func TestNames(t *testing.T) {
	names := far()
	for name := -300; name <= 300; name++ {
		names = append(names, name)
	}
	for _, isEvery := range []bool{false, true} {
		c, m := New(), newModel()
		for _, name := range names {
			checkSet(t, "name", c, m, name, 5, isEvery)
			check(t, fmt.Sprint("name ", name), c, m)
			checkLeft(t, "left", c, m, name)
		}
		for _, name := range names {
			if name >= 0 && name < 16 {
				continue
			}
			stop(c, m, name)
			check(t, fmt.Sprint("stopped ", name), c, m)
		}
		for range 6 {
			checkTick(t, "names", c, m)
		}
	}
}

// P13.1: the least and the most ticks, one less, one more, and numbers far from them; what is refused leaves a timer as it ran.
func TestTicks(t *testing.T) {
	numbers := append(far(), 1<<20-1, 1<<20, 1<<19)
	for n := -300; n <= 300; n++ {
		numbers = append(numbers, n)
	}
	for _, isEvery := range []bool{false, true} {
		for _, n := range numbers {
			c, m := New(), newModel()
			checkSet(t, "another", c, m, 3, 2, !isEvery)
			checkSet(t, "the same", c, m, 7, 3, !isEvery)
			checkSet(t, "number", c, m, 7, n, isEvery)
			for range 5 {
				check(t, fmt.Sprint(n), c, m)
				checkTick(t, fmt.Sprint(n), c, m)
			}
		}
	}
}

// P13.1: two arguments that can't be are refused as one is.
func TestBothWrong(t *testing.T) {
	c, m := New(), newModel()
	for _, name := range append(far(), -1, 16) {
		for _, n := range append(far(), 0, -1) {
			checkSet(t, "both wrong", c, m, name, n, false)
			checkSet(t, "both wrong", c, m, name, n, true)
		}
	}
	check(t, "both wrong", c, m)
}

// P13.1: a timer that is set runs from then on, whatever it did: not at all, once, again and again, or that it ran out or was stopped.
func TestSetWhateverItDid(t *testing.T) {
	for _, was := range []int{0, 1, 2, 3} {
		for gone := range 7 {
			for _, isEvery := range []bool{false, true} {
				for ticks := 1; ticks < 9; ticks++ {
					what := fmt.Sprint("was ", was, ", ", gone, " ticks ago, every ", isEvery, ", ", ticks)
					c, m := New(), newModel()
					if was > 0 {
						checkSet(t, what, c, m, 4, 4, was == 2)
					}
					for range gone {
						checkTick(t, what, c, m)
					}
					if was == 3 {
						stop(c, m, 4)
						check(t, what, c, m)
					}
					checkSet(t, what, c, m, 4, ticks, isEvery)
					for range 20 {
						check(t, what, c, m)
						checkTick(t, what, c, m)
					}
				}
			}
		}
	}
}

// P13.1: a timer that is stopped does not run, and the others run on; to stop it twice does no more.
func TestStop(t *testing.T) {
	for name := range 16 {
		c, m := New(), newModel()
		for other := range 16 {
			checkSet(t, "all", c, m, other, 1+other%5, other%2 == 0)
		}
		for range 2 {
			stop(c, m, name)
			check(t, fmt.Sprint("stopped ", name), c, m)
			checkTick(t, fmt.Sprint("stopped ", name), c, m)
		}
		for range 20 {
			checkTick(t, fmt.Sprint("stopped ", name), c, m)
			check(t, fmt.Sprint("stopped ", name), c, m)
		}
	}
}

// P13.2: the least number is told, at whichever name it stands, be it one timer's or many's.
func TestNext(t *testing.T) {
	for least := range 16 {
		for _, isRising := range []bool{false, true} {
			c, m := New(), newModel()
			for name := range 16 {
				ticks := 100 + name
				if !isRising {
					ticks = 200 - name
				}
				if name == least {
					ticks = 50
				}
				checkSet(t, "row", c, m, name, ticks, name%3 == 0)
				check(t, fmt.Sprint("least at ", least), c, m)
			}
			for range 60 {
				checkTick(t, fmt.Sprint("least at ", least), c, m)
				check(t, fmt.Sprint("least at ", least), c, m)
			}
		}
	}
	c, m := New(), newModel()
	checkSet(t, "most", c, m, 0, 1<<20, false)
	check(t, "most", c, m)
	checkSet(t, "least", c, m, 15, 1, false)
	check(t, "least", c, m)
}

// P13.2: what is asked changes nothing.
func TestAskingChangesNothing(t *testing.T) {
	c, m := New(), newModel()
	checkSet(t, "once", c, m, 2, 3, false)
	checkSet(t, "every", c, m, 9, 2, true)
	for range 8 {
		for range 5 {
			check(t, "asked", c, m)
			c.Copy()
		}
		checkTick(t, "asked", c, m)
	}
}

// P13.3: each set of timers that run out at one tick is told whole, its names rising, in whichever order they were set.
func TestTickTellsAll(t *testing.T) {
	for names := range 1 << 16 {
		if names%7 != 0 && names > 600 && names < 1<<16-600 {
			continue
		}
		c := New()
		var want []int
		for k := range 16 {
			name := (k*5 + names) % 16
			if names>>name&1 == 1 {
				c.Every(name, 2)
				want = append(want, name)
			} else {
				c.Set(name, 3)
			}
		}
		slices.Sort(want)
		if l := c.Tick(); len(l) != 0 {
			t.Fatalf("%016b: %v ahead of the time", names, l)
		}
		if l := c.Tick(); !slices.Equal(l, want) {
			t.Fatalf("%016b: %v", names, l)
		}
	}
}

// P13.3: who goes through the timers may leave ahead of the end, at each of them.
func TestRunningIsLeft(t *testing.T) {
	c, m := New(), newModel()
	for name := 1; name < 16; name += 2 {
		checkSet(t, "odd", c, m, name, 4, true)
	}
	for last := 1; last < 16; last += 2 {
		var names []int
		for name := range c.running() {
			names = append(names, name)
			if name == last {
				break
			}
		}
		if len(names) != (last+1)/2 || names[0] != 1 || names[len(names)-1] != last {
			t.Errorf("up to %d: %v", last, names)
		}
	}
	check(t, "left", c, m)
}

// P13.3: a copy is alike in all, also in what runs once and what again, and neither hangs on the other from then on.
func TestCopy(t *testing.T) {
	for gone := range 8 {
		c, m := New(), newModel()
		checkSet(t, "once", c, m, 1, 4, false)
		checkSet(t, "every", c, m, 5, 3, true)
		checkSet(t, "stopped", c, m, 6, 9, true)
		stop(c, m, 6)
		for range gone {
			checkTick(t, "ahead of the copy", c, m)
		}
		what := fmt.Sprint("copied behind ", gone)
		d, n := c.Copy(), m.copied()
		check(t, what, d, n)
		checkTick(t, what, d, n)
		check(t, what+": left", c, m)
		checkSet(t, what, c, m, 7, 2, true)
		stop(c, m, 5)
		check(t, what+": left", d, n)
		checkSet(t, what, d, n, 1, 9, true)
		e, o := d.Copy(), n.copied()
		stop(d, n, 1)
		for range 20 {
			checkTick(t, what+": copy", d, n)
			checkTick(t, what, c, m)
			checkTick(t, what+": copy's copy", e, o)
			check(t, what, c, m)
			check(t, what+": copy", d, n)
			check(t, what+": copy's copy", e, o)
		}
	}
}

// P13.4: a timer that is set runs out at just the tick with its number, and not again; one that runs again and again, at each multiple of it; no other does.
func TestEachNumber(t *testing.T) {
	for ticks := 1; ticks <= 40; ticks++ {
		c := New()
		c.Set(ticks%15, ticks)
		c.Every(15, ticks)
		for n := 1; n <= 200; n++ {
			var want []int
			if n == ticks {
				want = append(want, ticks%15)
			}
			if n%ticks == 0 {
				want = append(want, 15)
			}
			if l := c.Tick(); !slices.Equal(l, want) {
				t.Fatalf("%d: tick %d: %v; want %v", ticks, n, l, want)
			}
		}
	}
}

// P13.4: the most ticks, too, are just as many.
func TestTheMostTicks(t *testing.T) {
	c := New()
	c.Set(0, 1<<20)
	c.Every(15, 1<<20)
	c.Every(7, 1<<20-1)
	for n := 1; n <= 3<<20; n++ {
		l := c.Tick()
		var want []int
		if n == 1<<20 {
			want = append(want, 0)
		}
		if n%(1<<20-1) == 0 {
			want = append(want, 7)
		}
		if n%(1<<20) == 0 {
			want = append(want, 15)
		}
		if !slices.Equal(l, want) {
			t.Fatalf("tick %d: %v; want %v", n, l, want)
		}
	}
}

// P13.4: as many ticks as Next tells run out: the last of them tells a timer, those ahead of it tell none.
func TestNextIsWhenOneRunsOut(t *testing.T) {
	next := draw()
	for round := range 200 {
		c := New()
		for range 1 + next(16) {
			if next(2) == 0 {
				c.Set(next(16), 1+next(50))
			} else {
				c.Every(next(16), 1+next(50))
			}
		}
		for range 30 {
			n, ok := c.Next()
			if !ok {
				break
			}
			for k := 1; k <= n; k++ {
				if l := c.Tick(); (len(l) > 0) != (k == n) {
					t.Fatalf("round %d: %d of %d: %v", round, k, n, l)
				}
			}
		}
	}
}

// P13.1 to P13.4: calls of all kinds, on two clocks, of which now and then one becomes a copy of the other one: all that they tell is the model's.
func TestCallsOfAllKinds(t *testing.T) {
	next := draw()
	for round := range 100 {
		c := [2]*Clock{New(), New()}
		m := [2]*model{newModel(), newModel()}
		most := 1 + next(30)
		for step := range 400 {
			what := fmt.Sprint("round ", round, ", step ", step)
			i := next(2)
			switch call := next(100); {
			case call < 12:
				checkSet(t, what, c[i], m[i], next(18)-1, next(most+2), false)
			case call < 24:
				checkSet(t, what, c[i], m[i], next(18)-1, next(most+2), true)
			case call < 34:
				stop(c[i], m[i], next(18)-1)
			case call < 37:
				c[i], m[i] = c[1-i].Copy(), m[1-i].copied()
			default:
				checkTick(t, what, c[i], m[i])
			}
			for i := range c {
				check(t, what, c[i], m[i])
			}
		}
	}
}

// R1: of nil, and of a clock that no call answered, nothing is told, and none becomes one by being asked.
func TestOfNil(t *testing.T) {
	for _, c := range []*Clock{nil, {}} {
		for range 2 {
			for _, name := range append(far(), -1, 0, 3, 15, 16) {
				for _, n := range append(far(), -1, 0, 1, 5, 1<<20) {
					if e := c.Set(name, n); e != api.ErrNil {
						t.Errorf("Set(%d, %d) = %d", name, n, e)
					}
					if e := c.Every(name, n); e != api.ErrNil {
						t.Errorf("Every(%d, %d) = %d", name, n, e)
					}
				}
				c.Stop(name)
				if n, ok := c.Left(name); n != 0 || ok {
					t.Errorf("Left(%d) = %d, %v", name, n, ok)
				}
			}
			if n, ok := c.Next(); n != 0 || ok {
				t.Error(n, ok)
			}
			if c.Tick() != nil || c.Copy() != nil {
				t.Error("something is told of none")
			}
		}
	}
}

// R4: what is answered is new memory, spare room too.
func TestAnswersAreNewMemory(t *testing.T) {
	for many := 1; many <= 16; many++ {
		c, m := New(), newModel()
		for name := range many {
			checkSet(t, "every", c, m, name, 1, true)
		}
		var answers [][]int
		for range 5 {
			l := c.Tick()
			if !slices.Equal(l, m.tick()) {
				t.Fatalf("%d: %v", many, l)
			}
			answers = append(answers, l)
		}
		for i, l := range answers {
			spare := l[:cap(l)]
			for k := range spare {
				spare[k] = -7
			}
			for _, other := range answers[i+1:] {
				if !slices.Equal(other, answers[len(answers)-1]) || slices.Contains(other, -7) {
					t.Fatalf("%d: %v", many, other)
				}
			}
			check(t, "written over", c, m)
		}
		checkTick(t, "written over", c, m)
	}
}

// R5: the same calls answer the same, whatever was done with other clocks between them.
func TestOneAnswer(t *testing.T) {
	run := func(between func()) string {
		c := New()
		var told string
		for k := range 40 {
			between()
			n, ok := c.Next()
			told += fmt.Sprint(c.Every(k%19, 3+k%4), c.Set(k%5, k%3), n, ok, c.Tick(), c.Copy().Tick(), ";")
		}
		return told
	}
	first := run(func() {})
	other := New()
	again := run(func() {
		other.Set(1, 1)
		other.Every(2, 1)
		other.Tick()
		other.Stop(2)
	})
	if first != again {
		t.Errorf("%s\n%s", first, again)
	}
}

// The chapter's examples.
func TestExamples(t *testing.T) {
	c := New()
	if c.Set(3, 2) != api.OK || c.Every(1, 1) != api.OK {
		t.Fatal("set")
	}
	for i, want := range [][]int{{1}, {1, 3}, {1}} {
		if l := c.Tick(); !slices.Equal(l, want) {
			t.Error(i, l)
		}
	}
	if c.Set(16, 1) != api.ErrArg || c.Set(0, 0) != api.ErrArg {
		t.Error("what can't be is set")
	}
	c = New()
	c.Every(1, 5)
	c.Set(2, 3)
	if n, ok := c.Next(); n != 3 || !ok {
		t.Error(n, ok)
	}
}
