package txq

import (
	"bytes"
	"fmt"
	"math"
	"testing"

	"wheelhouse/api"
)

// draw gives numbers below n without a pattern, the same ones each time.
func draw() func(n int) int {
	x := uint32(2463534242)
	return func(n int) int {
		x ^= x << 13
		x ^= x >> 17
		x ^= x << 5
		return int(x>>3) % n
	}
}

// put is a frame with the number of its Put.
type put struct {
	f  api.Frame
	at int
}

// model is a queue by a way that shares nothing with the package: frames lie as they came, and the one that goes first is sought whenever it is asked for.
type model struct {
	puts              []put
	room, count, lost int
	isSpilt           bool
}

// ahead tells whether one is sent ahead of another one.
func (p put) ahead(other put) bool {
	key := func(p put) [3]int {
		remote := 0
		if p.f.Remote {
			remote = 1
		}
		return [3]int{p.f.Id, remote, p.at}
	}
	a, b := key(p), key(other)
	for i := range a {
		if a[i] != b[i] {
			return a[i] < b[i]
		}
	}
	return false
}

func (m *model) put(f api.Frame) api.Errno {
	switch {
	case f.Id < 0 || f.Id >= 2048:
		return api.ErrRange
	case len(f.Data) >= 9:
		return api.ErrBig
	case f.Remote && len(f.Data) != 0:
		return api.ErrForm
	case len(m.puts) >= m.room:
		m.lost++
		m.isSpilt = true
		return api.ErrFull
	}
	m.count++
	m.puts = append(m.puts, put{copied(f), m.count})
	return api.OK
}

func (m *model) take() (api.Frame, bool) {
	first := -1
	for i, p := range m.puts {
		if first < 0 || p.ahead(m.puts[first]) {
			first = i
		}
	}
	if first < 0 {
		return api.Frame{}, false
	}
	f := m.puts[first].f
	m.puts = append(append([]put{}, m.puts[:first]...), m.puts[first+1:]...)
	return f, true
}

func (m *model) list() []api.Frame {
	rest := m.copied()
	var l []api.Frame
	for f, ok := rest.take(); ok; f, ok = rest.take() {
		l = append(l, f)
	}
	return l
}

func (m *model) spilt() bool {
	was := m.isSpilt
	m.isSpilt = false
	return was
}

func (m *model) copied() *model {
	c := *m
	c.puts = append([]put{}, m.puts...)
	return &c
}

func copied(f api.Frame) api.Frame {
	f.Data = append([]byte{}, f.Data...)
	return f
}

// isSame tells whether two frames are alike in all.
func isSame(a, b api.Frame) bool {
	return a.Id == b.Id && a.Remote == b.Remote && bytes.Equal(a.Data, b.Data)
}

func isZero(f api.Frame) bool {
	return f.Id == 0 && !f.Remote && f.Data == nil
}

// check holds all that a queue tells, but for Spilt, which asking changes, against the model.
func check(t *testing.T, what string, q *Queue, m *model) {
	t.Helper()
	if q == nil {
		t.Fatalf("%s: nil", what)
	}
	if q.Len() != len(m.puts) || q.Lost() != m.lost {
		t.Fatalf("%s: %d frames, %d lost; want %d, %d", what, q.Len(), q.Lost(), len(m.puts), m.lost)
	}
	checkList(t, what, q.List(), m.list())
}

func checkList(t *testing.T, what string, l, want []api.Frame) {
	t.Helper()
	if len(l) != len(want) {
		t.Fatalf("%s: %v; want %v", what, l, want)
	}
	for i := range l {
		if !isSame(l[i], want[i]) {
			t.Fatalf("%s: %v; want %v", what, l, want)
		}
	}
}

// checkTaken takes all frames, and holds them against the model.
func checkTaken(t *testing.T, what string, q *Queue, m *model) {
	t.Helper()
	for n := len(m.puts); n >= 0; n-- {
		checkTake(t, fmt.Sprint(what, ": ", n, " left"), q, m)
	}
}

func checkTake(t *testing.T, what string, q *Queue, m *model) {
	t.Helper()
	want, wantOk := m.take()
	f, ok := q.Take()
	if ok != wantOk || !isSame(f, want) || !ok && !isZero(f) {
		t.Fatalf("%s: %v, %v; want %v, %v", what, f, ok, want, wantOk)
	}
	check(t, what, q, m)
}

func checkPut(t *testing.T, what string, q *Queue, m *model, f api.Frame) {
	t.Helper()
	want := m.put(f)
	if e := q.Put(f); e != want {
		t.Fatalf("%s: Put(%v) = %d; want %d", what, f, e, want)
	}
	check(t, what, q, m)
}

func checkSpilt(t *testing.T, what string, q *Queue, m *model) {
	t.Helper()
	if want, is := m.spilt(), q.Spilt(); is != want {
		t.Fatalf("%s: spilt %v", what, is)
	}
}

// both are a queue and its model.
func both(t *testing.T, room int) (*Queue, *model) {
	t.Helper()
	q, e := New(room)
	if e != api.OK || q == nil {
		t.Fatalf("New(%d) = %v, %d", room, q, e)
	}
	return q, &model{room: room}
}

// numbered is a frame whose bytes tell its number, so that no two are alike.
func numbered(id int, isRemote bool, n int) api.Frame {
	if isRemote {
		return api.Frame{Id: id, Remote: true}
	}
	return api.Frame{Id: id, Data: []byte{byte(n), byte(n >> 8)}}
}

// P12.1: each room about those that can be, and such as are far from them.
func TestNewOfAllRooms(t *testing.T) {
	rooms := []int{math.MinInt, math.MinInt + 1, math.MinInt32, -1 << 32, 1 << 32, 1<<32 + 1, 1<<32 + 64, 256 + 1, 65536 + 1, math.MaxInt32, math.MaxInt - 1, math.MaxInt}
	for room := -300; room <= 300; room++ {
		rooms = append(rooms, room)
	}
	for _, room := range rooms {
		q, e := New(room)
		if room < 1 || room > 64 {
			if q != nil || e != api.ErrArg {
				t.Errorf("New(%d) = %v, %d", room, q, e)
			}
			continue
		}
		if e != api.OK {
			t.Fatalf("New(%d): %d", room, e)
		}
		check(t, fmt.Sprint("room ", room), q, &model{room: room})
		if f, ok := q.Take(); ok || !isZero(f) {
			t.Errorf("room %d: %v, %v", room, f, ok)
		}
		if q.Spilt() {
			t.Errorf("room %d: spilt", room)
		}
	}
}

// P12.2: a queue takes just as many as it has room for, whatever the room, and one more whenever one is taken.
func TestPutUpToTheRoom(t *testing.T) {
	for room := 1; room <= 64; room++ {
		q, m := both(t, room)
		for k := range room + 3 {
			checkPut(t, fmt.Sprint("room ", room, ", ", k), q, m, numbered(9, false, k))
		}
		if q.Len() != room || q.Lost() != 3 {
			t.Fatalf("room %d: %d, %d lost", room, q.Len(), q.Lost())
		}
		checkTake(t, fmt.Sprint("room ", room), q, m)
		checkPut(t, "one again", q, m, numbered(9, false, 1000))
		checkPut(t, "one too many again", q, m, numbered(9, false, 1001))
		checkTaken(t, fmt.Sprint("room ", room), q, m)
	}
}

// P12.2: what frame.Check says comes first, of a full queue, too; then nothing is put, and nothing is lost.
func TestPutErrors(t *testing.T) {
	wrong := []struct {
		f api.Frame
		e api.Errno
	}{
		{api.Frame{Id: -1}, api.ErrRange},
		{api.Frame{Id: 2048}, api.ErrRange},
		{api.Frame{Id: math.MinInt}, api.ErrRange},
		{api.Frame{Id: math.MaxInt}, api.ErrRange},
		{api.Frame{Id: 2048, Remote: true, Data: make([]byte, 9)}, api.ErrRange},
		{api.Frame{Id: 1, Data: make([]byte, 9)}, api.ErrBig},
		{api.Frame{Id: 1, Data: make([]byte, 1000)}, api.ErrBig},
		{api.Frame{Id: 1, Remote: true, Data: make([]byte, 9)}, api.ErrBig},
		{api.Frame{Id: 1, Remote: true, Data: make([]byte, 8)}, api.ErrForm},
		{api.Frame{Id: 2047, Remote: true, Data: []byte{0}}, api.ErrForm},
	}
	for _, isFull := range []bool{false, true} {
		q, m := both(t, 2)
		checkPut(t, "one", q, m, numbered(5, false, 1))
		if isFull {
			checkPut(t, "two", q, m, numbered(4, true, 2))
		}
		for _, c := range wrong {
			if e := q.Put(c.f); e != c.e {
				t.Errorf("full %v: Put(%v) = %d; want %d", isFull, c.f, e, c.e)
			}
			check(t, fmt.Sprint(c.f), q, m)
			if q.Spilt() {
				t.Errorf("full %v: Put(%v): spilt", isFull, c.f)
			}
		}
	}
}

// P12.2: the least and the greatest frames that can be are put.
func TestPutAtTheEdges(t *testing.T) {
	q, m := both(t, 64)
	for _, f := range []api.Frame{
		{Id: 2047, Data: []byte("12345678")},
		{},
		{Id: 2047, Remote: true},
		{Remote: true},
		{Remote: true, Data: []byte{}},
		{Data: []byte{}},
		{Data: []byte("87654321")},
		{Id: 2047},
	} {
		checkPut(t, fmt.Sprint(f), q, m, f)
	}
	checkTaken(t, "edges", q, m)
}

// P12.2: each order in which frames of three Ids come, Remote or not, and some of them twice: those that are alike in Id and Remote stand as they came.
func TestPutInEachOrder(t *testing.T) {
	kinds := []api.Frame{{Id: 3}, {Id: 3, Remote: true}, {Id: 4}, {Id: 4, Remote: true}, {Id: 0}}
	const puts = 5
	total := 1
	for range puts {
		total *= len(kinds)
	}
	for code := range total {
		q, m := both(t, puts)
		for k, c := 0, code; k < puts; k, c = k+1, c/len(kinds) {
			f := kinds[c%len(kinds)]
			checkPut(t, fmt.Sprint(code, ", ", k), q, m, numbered(f.Id, f.Remote, k))
		}
		checkTaken(t, fmt.Sprint(code), q, m)
	}
}

// P12.2: bytes have no say in the order: those of one Id stay as they came, also of other lengths.
func TestBytesHaveNoSay(t *testing.T) {
	q, m := both(t, 8)
	for _, data := range [][]byte{{9}, {}, {1, 2, 3}, {0}, {255, 255}, nil, {1}} {
		checkPut(t, fmt.Sprint(data), q, m, api.Frame{Id: 7, Data: data})
	}
	checkTaken(t, "bytes", q, m)
}

// P12.2: all places of a row of each length are opened, and the others stay.
func TestPutAtEachPlace(t *testing.T) {
	for n := range 12 {
		for at := 0; at <= n; at++ {
			q, m := both(t, n+1)
			for k := range n {
				checkPut(t, "row", q, m, numbered(10*k+5, false, k))
			}
			checkPut(t, fmt.Sprint(at, " of ", n), q, m, numbered(10*at, false, 100))
			checkTaken(t, fmt.Sprint(at, " of ", n), q, m)
		}
	}
}

// P12.3: Spilt tells a loss once, however many there were, and each loss anew; what is no loss it doesn't tell.
func TestSpilt(t *testing.T) {
	q, m := both(t, 1)
	checkSpilt(t, "new", q, m)
	checkPut(t, "one", q, m, numbered(1, false, 1))
	checkSpilt(t, "full, and none lost", q, m)
	for losses := range 4 {
		for range losses {
			checkPut(t, "lost", q, m, numbered(0, false, losses))
		}
		for range 3 {
			checkSpilt(t, fmt.Sprint(losses, " lost"), q, m)
		}
	}
	if q.Lost() != 6 {
		t.Errorf("%d lost", q.Lost())
	}
	checkPut(t, "lost", q, m, numbered(0, false, 1))
	checkTake(t, "taken between", q, m)
	checkPut(t, "put between", q, m, numbered(0, true, 1))
	q.Len()
	q.Lost()
	q.List()
	q.Copy()
	if !q.Spilt() || q.Spilt() {
		t.Error("a loss is told once, behind other calls, too")
	}
}

// P12.3: Clear takes all frames away; what was lost, and that it was, stays, and so does the room.
func TestClear(t *testing.T) {
	for room := 1; room <= 64; room += 7 {
		for puts := range room + 3 {
			q, m := both(t, room)
			for k := range puts {
				checkPut(t, "put", q, m, numbered(3, k%2 == 1, k))
			}
			q.Clear()
			m.puts = nil
			check(t, fmt.Sprint("cleared of ", puts), q, m)
			checkTake(t, "nothing", q, m)
			checkSpilt(t, fmt.Sprint("cleared of ", puts), q, m)
			for k := range room + 1 {
				checkPut(t, "again", q, m, numbered(4, false, k))
			}
			checkTaken(t, "again", q, m)
		}
	}
}

// P12.3: a copy is alike in all, its room and its losses, too, and neither hangs on the other from then on.
func TestCopy(t *testing.T) {
	for room := 1; room <= 6; room++ {
		for puts := range room + 3 {
			q, m := both(t, room)
			for k := range puts {
				checkPut(t, "put", q, m, numbered(20-k/2, k%2 == 0, k))
			}
			c, n := q.Copy(), m.copied()
			what := fmt.Sprint(puts, " in ", room)
			check(t, what+": copy", c, n)
			for k := range 3 {
				checkPut(t, what+": put into the copy", c, n, numbered(19, false, 10+k))
				check(t, what+": of which the other is left", q, m)
			}
			checkTake(t, what, q, m)
			checkPut(t, what, q, m, numbered(18, false, 90))
			check(t, what+": copy left", c, n)
			d, o := c.Copy(), n.copied()
			c.Clear()
			n.puts = nil
			checkSpilt(t, what+": copy", c, n)
			check(t, what+": left behind a Clear", q, m)
			checkSpilt(t, what, q, m)
			checkSpilt(t, what+": copy's copy", d, o)
			checkTaken(t, what, q, m)
			checkTaken(t, what+": copy", c, n)
			checkTaken(t, what+": copy's copy", d, o)
		}
	}
}

// P12.3: copies that put at the same place have no row in common, whatever room a row has behind it.
func TestCopiesPutApart(t *testing.T) {
	for n := range 20 {
		for at := 0; at <= n; at++ {
			q, m := both(t, 64)
			for k := range n {
				checkPut(t, "row", q, m, numbered(10*k+5, false, k))
			}
			c, o := q.Copy(), m.copied()
			checkPut(t, "here", q, m, numbered(10*at, false, 100))
			checkPut(t, "there", c, o, numbered(10*at, true, 0))
			check(t, fmt.Sprint(at, " of ", n, " here"), q, m)
			checkTake(t, "there", c, o)
			check(t, fmt.Sprint(at, " of ", n, " here, behind a Take there"), q, m)
		}
	}
}

// P12.4: calls of all kinds, on two queues, of which now and then one becomes a copy of the other one: all that they tell is the model's, and the sums are right.
func TestCallsOfAllKinds(t *testing.T) {
	next := draw()
	for round := range 120 {
		var q [2]*Queue
		var m [2]*model
		var puts, taken, cleared [2]int
		for i := range q {
			q[i], m[i] = both(t, 1+next(1+63*next(2)))
		}
		for step := range 200 {
			what := fmt.Sprint("round ", round, ", step ", step)
			i := next(2)
			switch call := next(100); {
			case call < 62:
				f := numbered(next(6)*409, next(3) == 0, step)
				checkPut(t, what, q[i], m[i], f)
				puts[i]++
			case call < 85:
				if q[i].Len() > 0 {
					taken[i]++
				}
				checkTake(t, what, q[i], m[i])
			case call < 92:
				checkSpilt(t, what, q[i], m[i])
			case call < 95:
				cleared[i] += q[i].Len()
				q[i].Clear()
				m[i].puts = nil
				check(t, what, q[i], m[i])
			case call < 98:
				q[i], m[i] = q[1-i].Copy(), m[1-i].copied()
				puts[i], taken[i], cleared[i] = puts[1-i], taken[1-i], cleared[1-i]
			default:
				checkPut(t, what, q[i], m[i], api.Frame{Id: 2048 - next(2), Data: make([]byte, 9)})
			}
			for i := range q {
				if sum := q[i].Len() + taken[i] + q[i].Lost() + cleared[i]; sum != puts[i] {
					t.Fatalf("%s: %d were put, %d are told", what, puts[i], sum)
				}
			}
		}
		for i := range q {
			checkTaken(t, fmt.Sprint("round ", round), q[i], m[i])
		}
	}
}

// R1: of nil, and of a queue that no call answered, nothing is told, and none becomes one by being asked.
func TestOfNil(t *testing.T) {
	for _, q := range []*Queue{nil, {}} {
		for range 2 {
			for _, f := range []api.Frame{{}, {Id: 5, Data: []byte{1}}, {Id: -1}, {Id: 1, Data: make([]byte, 9)}, {Remote: true, Data: make([]byte, 1)}} {
				if e := q.Put(f); e != api.ErrNil {
					t.Errorf("Put(%v) = %d", f, e)
				}
			}
			if f, ok := q.Take(); ok || !isZero(f) {
				t.Error(f, ok)
			}
			if q.Len() != 0 || q.Lost() != 0 || q.Spilt() || q.List() != nil || q.Copy() != nil {
				t.Error("something is told of none")
			}
			q.Clear()
		}
	}
}

// R4: neither the bytes that are handed in, nor the room behind them, are changed or kept.
func TestArgumentsAreLeft(t *testing.T) {
	for n := range 9 {
		q, m := both(t, 2)
		room := []byte("abcdefghijkl")
		f := api.Frame{Id: 7, Data: room[:n]}
		checkPut(t, "put", q, m, f)
		checkPut(t, "put", q, m, f)
		checkPut(t, "lost", q, m, f)
		q.List()
		q.Copy()
		if string(room) != "abcdefghijkl" || f.Id != 7 || len(f.Data) != n {
			t.Fatalf("%d: %q, %v", n, room, f)
		}
		for i := range room {
			room[i] = '!'
		}
		check(t, fmt.Sprint(n, " bytes, written over"), q, m)
		checkTaken(t, fmt.Sprint(n, " bytes, written over"), q, m)
	}
}

// spoil writes over all that a list has, spare room too.
func spoil(l []api.Frame) {
	for i := range l {
		scratch(l[i])
	}
	l = l[:cap(l)]
	for i := range l {
		l[i] = api.Frame{Id: 1234, Data: []byte("!")}
	}
}

func scratch(f api.Frame) {
	spare := f.Data[:cap(f.Data)]
	for i := range spare {
		spare[i] = '!'
	}
}

// R4: what is answered is nobody else's: not the queue's, not a copy's, not another answer's.
func TestAnswersAreNewMemory(t *testing.T) {
	for n := range 9 {
		q, m := both(t, 8)
		for k := range 5 {
			checkPut(t, "put", q, m, api.Frame{Id: 7 - k%2, Data: bytes.Repeat([]byte{byte(k)}, n)})
		}
		c, o := q.Copy(), m.copied()
		all := m.list()
		l, other := q.List(), q.List()
		for i := range l {
			scratch(l[i])
			checkList(t, fmt.Sprint("behind frame ", i), l[i+1:], other[i+1:])
		}
		spoil(l)
		checkList(t, "the other list", other, m.list())
		check(t, "the queue", q, m)
		check(t, "its copy", c, o)
		for range 5 {
			want, _ := m.take()
			f, _ := q.Take()
			scratch(f)
			check(t, "the queue behind a Take", q, m)
			check(t, "the copy behind a Take", c, o)
			g, _ := c.Take()
			o.take()
			if !isSame(g, want) {
				t.Fatalf("the copy's frame became %v; want %v", g, want)
			}
		}
		checkList(t, "the other list behind all", other, all)
	}
}

// R5: the same calls answer the same, whatever was done with other queues between them.
func TestOneAnswer(t *testing.T) {
	run := func(between func()) string {
		q, _ := New(3)
		var told string
		for k := range 6 {
			between()
			told += fmt.Sprint(q.Put(numbered(9-k%3, k%2 == 0, k)), q.List(), q.Len(), q.Lost(), ";")
		}
		between()
		f, ok := q.Take()
		return told + fmt.Sprint(f, ok, q.Spilt(), q.Copy().List())
	}
	first := run(func() {})
	other, _ := New(1)
	again := run(func() {
		other.Put(api.Frame{Id: 1})
		other.Put(api.Frame{Id: 0})
		other.Take()
		other.Spilt()
		New(65)
	})
	if first != again {
		t.Errorf("%s\n%s", first, again)
	}
}

// The chapter's example.
func TestExamples(t *testing.T) {
	q, e := New(2)
	if e != api.OK {
		t.Fatal(e)
	}
	if e := q.Put(api.Frame{Id: 0x181}); e != api.OK {
		t.Error(e)
	}
	if e := q.Put(api.Frame{Id: 0x081}); e != api.OK {
		t.Error(e)
	}
	if e := q.Put(api.Frame{Id: 0}); e != api.ErrFull {
		t.Error(e)
	}
	if f, ok := q.Take(); !isSame(f, api.Frame{Id: 0x081}) || !ok {
		t.Error(f, ok)
	}
	if q.Lost() != 1 {
		t.Error(q.Lost())
	}
	if !q.Spilt() || q.Spilt() {
		t.Error("yes, then no")
	}
}
