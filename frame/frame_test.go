package frame

import (
	"bytes"
	"encoding/hex"
	"fmt"
	"math"
	"regexp"
	"strconv"
	"strings"
	"testing"

	"wheelhouse/api"
)

// draw gives numbers without a pattern, the same ones each time.
func draw() func() uint32 {
	x := uint32(2463534242)
	return func() uint32 {
		x ^= x << 13
		x ^= x >> 17
		x ^= x << 5
		return x
	}
}

// noise is n bytes without a pattern.
func noise(next func() uint32, n int) []byte {
	b := make([]byte, n)
	for i := range b {
		b[i] = byte(next() >> 8)
	}
	return b
}

// form is a frame's text, but for an Id or bytes that are too much.
var form = regexp.MustCompile(`\A([0-9a-f]{3})#(R|(?:[0-9a-f]{2})*)\z`)

// model is what P10.2 says of a text, by a way that shares nothing with the package.
func model(s string) (api.Frame, api.Errno) {
	m := form.FindStringSubmatch(s)
	if m == nil {
		return api.Frame{}, api.ErrForm
	}
	id, _ := strconv.ParseInt(m[1], 16, 64)
	if id > 2047 {
		return api.Frame{}, api.ErrRange
	}
	if m[2] == "R" {
		return api.Frame{Id: int(id), Remote: true}, api.OK
	}
	data, _ := hex.DecodeString(m[2])
	if len(data) > 8 {
		return api.Frame{}, api.ErrBig
	}
	return api.Frame{Id: int(id), Data: data}, api.OK
}

// isSame is Same's twin.
func isSame(a, b api.Frame) bool {
	return fmt.Sprintf("%d %v %x", a.Id, a.Remote, a.Data) == fmt.Sprintf("%d %v %x", b.Id, b.Remote, b.Data)
}

// isZero tells whether nothing stands in a frame.
func isZero(f api.Frame) bool {
	return f.Id == 0 && !f.Remote && len(f.Data) == 0
}

func checkParse(t *testing.T, s string) {
	t.Helper()
	want, wantE := model(s)
	if f, e := Parse(s); !isSame(f, want) || e != wantE {
		t.Errorf("Parse(%q) = %v, %d; want %v, %d", s, f, e, want, wantE)
	}
}

// frames are some of all kinds, also such as can't be.
func frames() []api.Frame {
	var l []api.Frame
	for _, id := range []int{math.MinInt, -2048, -1, 0, 1, 2, 0x7f, 0x80, 0x181, 2046, 2047, 2048, 4095, math.MaxInt} {
		for _, n := range []int{0, 1, 7, 8, 9, 300} {
			l = append(l, api.Frame{Id: id, Data: make([]byte, n)}, api.Frame{Id: id, Data: make([]byte, n), Remote: true})
		}
	}
	return l
}

// P10.1
func TestCheck(t *testing.T) {
	for _, c := range []struct {
		id     int
		remote bool
		n      int
		want   api.Errno
	}{
		{0, false, 0, api.OK},
		{0, true, 0, api.OK},
		{0, false, 8, api.OK},
		{2047, false, 8, api.OK},
		{2047, true, 0, api.OK},
		{-1, false, 0, api.ErrRange},
		{2048, false, 0, api.ErrRange},
		{math.MinInt, true, 0, api.ErrRange},
		{math.MaxInt, true, 0, api.ErrRange},
		{0, false, 9, api.ErrBig},
		{2047, false, 70000, api.ErrBig},
		{1, true, 1, api.ErrForm},
		{1, true, 8, api.ErrForm},
		// Where several are wrong, the one named first is told (R2).
		{-1, false, 9, api.ErrRange},
		{2048, true, 9, api.ErrRange},
		{2048, true, 1, api.ErrRange},
		{1, true, 9, api.ErrBig},
	} {
		if e := Check(api.Frame{Id: c.id, Remote: c.remote, Data: make([]byte, c.n)}); e != c.want {
			t.Errorf("Check(Id %d, Remote %v, %d bytes) = %d; want %d", c.id, c.remote, c.n, e, c.want)
		}
	}
}

// P10.1: all Ids about those that can be, with all lengths, Remote and not.
func TestCheckAll(t *testing.T) {
	for id := -2100; id <= 4200; id++ {
		for n := 0; n <= 10; n++ {
			want := api.OK
			if n > 8 {
				want = api.ErrBig
			}
			wantRemote := want
			if n > 0 && n <= 8 {
				wantRemote = api.ErrForm
			}
			if id < 0 || id > 2047 {
				want, wantRemote = api.ErrRange, api.ErrRange
			}
			data := make([]byte, n)
			if e := Check(api.Frame{Id: id, Data: data}); e != want {
				t.Fatalf("Check(Id %d, %d bytes) = %d; want %d", id, n, e, want)
			}
			if e := Check(api.Frame{Id: id, Data: data, Remote: true}); e != wantRemote {
				t.Fatalf("Check(Id %d, Remote, %d bytes) = %d; want %d", id, n, e, wantRemote)
			}
		}
	}
}

// P10.1: each two of frames that differ in one thing, and the same ones in memory of their own.
func TestSame(t *testing.T) {
	list := func() []api.Frame {
		l := frames()
		for i := range 8 {
			data := make([]byte, 8)
			data[i] = 1
			l = append(l, api.Frame{Id: 5, Data: data}, api.Frame{Id: 5, Data: data, Remote: true})
		}
		return append(l, api.Frame{Id: 5}, api.Frame{Id: 5, Data: []byte("ab")}, api.Frame{Id: 5, Data: []byte("ac")}, api.Frame{Id: 5, Data: []byte("ba")})
	}
	for i, a := range list() {
		for j, b := range list() {
			if Same(a, b) != (i == j) {
				t.Errorf("Same(%v, %v) = %v", a, b, i != j)
			}
		}
	}
	room := []byte("abcd")
	for _, c := range []struct{ a, b []byte }{{nil, []byte{}}, {[]byte{}, room[:0]}, {room[:2], []byte("ab")}} {
		if !Same(api.Frame{Id: 1, Data: c.a}, api.Frame{Id: 1, Data: c.b}) {
			t.Errorf("%q is not the same as %q", c.a, c.b)
		}
	}
}

// P10.1
func TestBefore(t *testing.T) {
	for _, a := range frames() {
		for _, b := range frames() {
			want := a.Id < b.Id || a.Id == b.Id && !a.Remote && b.Remote
			if Before(a, b) != want {
				t.Errorf("Before(%d %v %d bytes, %d %v %d bytes) = %v", a.Id, a.Remote, len(a.Data), b.Id, b.Remote, len(b.Data), !want)
			}
		}
	}
}

// P10.1: what the bytes are matters not.
func TestBeforeHangsOnNoBytes(t *testing.T) {
	low, high := api.Frame{Id: 3, Data: []byte{0}}, api.Frame{Id: 3, Data: []byte{255, 1}}
	if Before(low, high) || Before(high, low) {
		t.Error("bytes were looked at")
	}
	high.Remote = true
	if !Before(low, high) || Before(high, low) {
		t.Error("the one that is not Remote goes ahead")
	}
}

// P10.2: all frames' Ids with bytes of all lengths, and Remote.
func TestShow(t *testing.T) {
	next := draw()
	for id := range 2048 {
		for n := 0; n <= 8; n++ {
			f := api.Frame{Id: id, Data: noise(next, n)}
			want := fmt.Sprintf("%03x#%x", id, f.Data)
			if s, e := Show(f); s != want || e != api.OK {
				t.Fatalf("Show(%v) = %q, %d; want %q", f, s, e, want)
			}
		}
		want := fmt.Sprintf("%03x#R", id)
		for _, data := range [][]byte{nil, {}} {
			if s, e := Show(api.Frame{Id: id, Remote: true, Data: data}); s != want || e != api.OK {
				t.Fatalf("Show(%d, Remote) = %q, %d; want %q", id, s, e, want)
			}
		}
	}
}

// P10.2: all bytes, at the first place and at the last one.
func TestShowBytes(t *testing.T) {
	for c := range 256 {
		f := api.Frame{Id: 0x7ff, Data: []byte{byte(c), 0, 1, 2, 3, 4, 5, byte(255 - c)}}
		want := fmt.Sprintf("7ff#%02x000102030405%02x", c, 255-c)
		if s, e := Show(f); s != want || e != api.OK {
			t.Errorf("Show(%v) = %q, %d; want %q", f, s, e, want)
		}
	}
}

// P10.2: Check's error, and no text beside it (R3).
func TestShowErrors(t *testing.T) {
	for _, f := range frames() {
		s, e := Show(f)
		if e != Check(f) || (e == api.OK) == (s == "") {
			t.Errorf("Show(%d %v %d bytes) = %q, %d", f.Id, f.Remote, len(f.Data), s, e)
		}
	}
}

// P10.2
func TestParse(t *testing.T) {
	for _, c := range []struct {
		s    string
		want api.Frame
		e    api.Errno
	}{
		{"000#", api.Frame{}, api.OK},
		{"181#0aff", api.Frame{Id: 0x181, Data: []byte{10, 255}}, api.OK},
		{"7ff#ffffffffffffffff", api.Frame{Id: 2047, Data: bytes.Repeat([]byte{255}, 8)}, api.OK},
		{"7ff#R", api.Frame{Id: 2047, Remote: true}, api.OK},
		{"abc#", api.Frame{}, api.ErrRange},
		{"800#", api.Frame{}, api.ErrRange},
		{"fff#R", api.Frame{}, api.ErrRange},
		{"800#000000000000000000", api.Frame{}, api.ErrRange},
		{"7ff#000000000000000000", api.Frame{}, api.ErrBig},
		{"001#" + strings.Repeat("ab", 5000), api.Frame{}, api.ErrBig},
		// What has not the form is told as that, however much is there.
		{"800#0", api.Frame{}, api.ErrForm},
		{"800#r", api.Frame{}, api.ErrForm},
		{"800#00R", api.Frame{}, api.ErrForm},
		{"001#00112233445566778", api.Frame{}, api.ErrForm},
		{"001#00112233445566778g", api.Frame{}, api.ErrForm},
		{"001#" + strings.Repeat("a", 5001), api.Frame{}, api.ErrForm},
		{"1000#", api.Frame{}, api.ErrForm},
		{strings.Repeat("0", 5000) + "#", api.Frame{}, api.ErrForm},
		{"", api.Frame{}, api.ErrForm},
		{"#", api.Frame{}, api.ErrForm},
		{"#R", api.Frame{}, api.ErrForm},
		{"R", api.Frame{}, api.ErrForm},
		{"1#", api.Frame{}, api.ErrForm},
		{"01#", api.Frame{}, api.ErrForm},
		{"0001#", api.Frame{}, api.ErrForm},
		{"001", api.Frame{}, api.ErrForm},
		{"001R", api.Frame{}, api.ErrForm},
		{"0010", api.Frame{}, api.ErrForm},
		{"001#0", api.Frame{}, api.ErrForm},
		{"001#RR", api.Frame{}, api.ErrForm},
		{"001#R00", api.Frame{}, api.ErrForm},
		{"001#00R", api.Frame{}, api.ErrForm},
		{"001#r", api.Frame{}, api.ErrForm},
		{"001#0A", api.Frame{}, api.ErrForm},
		{"00A#", api.Frame{}, api.ErrForm},
		{"0x1#", api.Frame{}, api.ErrForm},
		{"-01#", api.Frame{}, api.ErrForm},
		{"+01#", api.Frame{}, api.ErrForm},
		{"001##", api.Frame{}, api.ErrForm},
		{"001#00#", api.Frame{}, api.ErrForm},
		{"001##R", api.Frame{}, api.ErrForm},
		{" 001#", api.Frame{}, api.ErrForm},
		{"001# ", api.Frame{}, api.ErrForm},
		{"001#\n", api.Frame{}, api.ErrForm},
		{"001#R\n", api.Frame{}, api.ErrForm},
		{"\n001#", api.Frame{}, api.ErrForm},
		{"001#\r\n", api.Frame{}, api.ErrForm},
		{"001#\x00\x00", api.Frame{}, api.ErrForm},
	} {
		if f, e := Parse(c.s); !isSame(f, c.want) || e != c.e {
			t.Errorf("Parse(%.40q) = %v, %d; want %v, %d", c.s, f, e, c.want, c.e)
		}
	}
}

// P10.2: what are no digits, however many bytes they have, and bytes that are no runes.
func TestParseRunes(t *testing.T) {
	for _, s := range []string{"\uff11", "\u0661", "\u00b2", "é", "\xff", "\xc3", "\xed\xa0\x80", "\U0001d7d9", "\u0130", "\ufffd"} {
		for _, text := range []string{s + "#", s + s + s + "#", "0" + s + "#", s + "0#", "00" + s + "#", s + "00#", "001#" + s, "001#" + s + s, "001#0" + s, "001" + s, "001" + s + "00", "001#R" + s} {
			checkParse(t, text)
			if _, e := Parse(text); e != api.ErrForm {
				t.Errorf("Parse(%q): %d", text, e)
			}
		}
	}
}

// P10.2: all Ids of three digits, with the tails that turn the answer.
func TestParseIds(t *testing.T) {
	for id := range 4096 {
		head := fmt.Sprintf("%03x", id)
		for _, tail := range []string{"", "#", "#R", "#0", "#00", "#0011223344556677", "#001122334455667788"} {
			checkParse(t, head+tail)
		}
	}
}

// P10.2: bytes of all lengths, in digits of which there may be one too few.
func TestParseLengths(t *testing.T) {
	digits := hex.EncodeToString(noise(draw(), 40))
	for n := range len(digits) + 1 {
		for _, head := range []string{"000#", "7ff#", "800#", "fff#"} {
			checkParse(t, head+digits[:n])
		}
	}
}

// P10.2: each byte of some texts, made each other one, left out, and doubled.
func TestParseEachByte(t *testing.T) {
	for _, s := range []string{"000#", "181#0aff", "7ff#R", "800#", "5a9#0011223344556677", "123#001122334455667788"} {
		for i := range s {
			checkParse(t, s[:i])
			checkParse(t, s[:i]+s[i+1:])
			checkParse(t, s[:i+1]+s[i:])
			for c := range 256 {
				checkParse(t, s[:i]+string([]byte{byte(c)})+s[i+1:])
			}
		}
	}
}

// P10.2: all texts of up to six signs of those on which the form turns.
func TestParseShortTexts(t *testing.T) {
	const signs = "07af#RAg\n"
	texts := []string{""}
	for range 6 {
		var longer []string
		for _, s := range texts {
			for _, c := range signs {
				longer = append(longer, s+string(c))
			}
		}
		for _, s := range longer {
			if f, e := Parse(s); e != api.ErrForm || !isZero(f) {
				checkParse(t, s)
			} else if form.MatchString(s) {
				t.Errorf("Parse(%q): ErrForm", s)
			}
		}
		texts = longer
	}
}

// linesModel is what P10.3 says of a text.
func linesModel(s string) ([]api.Frame, api.Errno, int) {
	var l []api.Frame
	parts := strings.SplitAfter(s, "\n")
	for i, part := range parts {
		if !strings.HasSuffix(part, "\n") {
			if part == "" {
				break
			}
			return nil, api.ErrForm, i
		}
		f, e := model(part[:len(part)-1])
		if e != api.OK {
			return nil, e, i
		}
		l = append(l, f)
	}
	return l, api.OK, 0
}

func checkLines(t *testing.T, s string) {
	t.Helper()
	want, wantE, wantAt := linesModel(s)
	l, e, at := Lines(s)
	if len(l) != len(want) || e != wantE || at != wantAt {
		t.Errorf("Lines(%.60q) = %v, %d, %d; want %v, %d, %d", s, l, e, at, want, wantE, wantAt)
		return
	}
	for i, f := range l {
		if !isSame(f, want[i]) {
			t.Errorf("Lines(%.60q)[%d] = %v; want %v", s, i, f, want[i])
		}
	}
}

// P10.3
func TestLines(t *testing.T) {
	for _, c := range []struct {
		s     string
		count int
		e     api.Errno
		at    int
	}{
		{"", 0, api.OK, 0},
		{"001#\n", 1, api.OK, 0},
		{"001#\n001#\n7ff#R\n", 3, api.OK, 0},
		{"001#", 0, api.ErrForm, 0},
		{"001#\n002#", 0, api.ErrForm, 1},
		{"001#\n002#\n0", 0, api.ErrForm, 2},
		{"\n", 0, api.ErrForm, 0},
		{"\n001#\n", 0, api.ErrForm, 0},
		{"001#\n\n", 0, api.ErrForm, 1},
		{"001#\n\n002#\n", 0, api.ErrForm, 1},
		{"001#\r\n", 0, api.ErrForm, 0},
		{"800#\n", 0, api.ErrRange, 0},
		{"001#\n800#R\n", 0, api.ErrRange, 1},
		{"001#\n002#\n003#001122334455667788\n", 0, api.ErrBig, 2},
		{"001#\n800#001122334455667788\n", 0, api.ErrRange, 1},
		// A last line without a byte 10 is told as that, and not as what else is wrong of it.
		{"800#", 0, api.ErrForm, 0},
		{"001#\n800#", 0, api.ErrForm, 1},
		{"001#\n002#001122334455667788", 0, api.ErrForm, 1},
		// It is told in its turn, and of more lines that are wrong the first one is.
		{"800#\n002#", 0, api.ErrRange, 0},
		{"001#\n001#001122334455667788\n003#", 0, api.ErrBig, 1},
		{"001#\n800#\nx\n", 0, api.ErrRange, 1},
		{"x\n800#\n", 0, api.ErrForm, 0},
	} {
		if l, e, at := Lines(c.s); len(l) != c.count || e != c.e || at != c.at {
			t.Errorf("Lines(%q) = %v, %d, %d; want %d of them, %d, %d", c.s, l, e, at, c.count, c.e, c.at)
		}
		checkLines(t, c.s)
	}
}

// P10.3: one line that is wrong, at each place of some, ended and not.
func TestLinesPlaces(t *testing.T) {
	for n := range 40 {
		for at := range n {
			for _, wrong := range []string{"", "x", "800#", "800#R", "001#0", "001#001122334455667788"} {
				s := strings.Repeat("123#R\n", at) + wrong + "\n" + strings.Repeat("800#001122334455667788\n", n-at-1)
				if l, e, got := Lines(s); len(l) != 0 || e == api.OK || got != at {
					t.Fatalf("%q at %d of %d: %v, %d, %d", wrong, at, n, l, e, got)
				}
				checkLines(t, s)
				checkLines(t, s[:len(s)-1])
			}
		}
	}
}

// P10.3: texts without a pattern, of lines of all kinds.
func TestLinesAgainstTheModel(t *testing.T) {
	next := draw()
	kinds := []string{"001#\n", "7ff#R\n", "181#0aff\n", "123#0011223344556677\n", "000#00\n", "001#\n", "5a9#a5\n", "002#R\n", "800#\n", "001#001122334455667788\n", "\n", "001#", "R\n", "001#0\n"}
	for range 20000 {
		var s strings.Builder
		few := 8 + int(next()%7)
		for range next() % 7 {
			s.WriteString(kinds[int(next()>>4)%few])
		}
		checkLines(t, s.String())
	}
}

// P10.3
func TestText(t *testing.T) {
	bad := map[api.Errno]api.Frame{
		api.ErrRange: {Id: 2048},
		api.ErrBig:   {Data: make([]byte, 9)},
		api.ErrForm:  {Remote: true, Data: []byte{1}},
	}
	good := api.Frame{Id: 0x123, Data: []byte{0xab}}
	for e, f := range bad {
		for other, g := range bad {
			for _, l := range [][]api.Frame{{f}, {f, good}, {good, f}, {good, good, f, good, g}, {f, g}} {
				if s, got := Text(l); s != "" || got != e {
					t.Errorf("Text of %d, and of %d behind it = %q, %d", e, other, s, got)
				}
			}
		}
	}
	for _, l := range [][]api.Frame{nil, {}} {
		if s, e := Text(l); s != "" || e != api.OK {
			t.Errorf("Text(none) = %q, %d", s, e)
		}
	}
	if s, e := Text([]api.Frame{good, {Id: 1}, {Id: 2, Remote: true}, good}); s != "123#ab\n001#\n002#R\n123#ab\n" || e != api.OK {
		t.Errorf("%q, %d", s, e)
	}
}

// anyFrame is a frame that can be, without a pattern.
func anyFrame(next func() uint32) api.Frame {
	id := int(next()>>4) % 2048
	if next()>>6%4 == 0 {
		return api.Frame{Id: id, Remote: true}
	}
	return api.Frame{Id: id, Data: noise(next, int(next()>>7)%9)}
}

// P10.4: there and back, of all Ids, Remote and with bytes of all lengths.
func TestParseOfShow(t *testing.T) {
	next := draw()
	for id := range 2048 {
		for n := -1; n <= 8; n++ {
			f := api.Frame{Id: id, Remote: n < 0, Data: noise(next, max(n, 0))}
			s, e := Show(f)
			if e != api.OK {
				t.Fatal(f, e)
			}
			g, e := Parse(s)
			if e != api.OK || !Same(f, g) || !isSame(f, g) {
				t.Fatalf("%v, %q, %v, %d", f, s, g, e)
			}
			if again, e := Show(g); e != api.OK || again != s {
				t.Fatalf("%q, then %q, %d", s, again, e)
			}
		}
	}
}

// P10.4
func TestLinesOfText(t *testing.T) {
	next := draw()
	for n := range 300 {
		frames := make([]api.Frame, n)
		for i := range frames {
			frames[i] = anyFrame(next)
		}
		s, e := Text(frames)
		if e != api.OK || strings.Count(s, "\n") != n {
			t.Fatal(n, s, e)
		}
		l, e, at := Lines(s)
		if e != api.OK || at != 0 || len(l) != n {
			t.Fatal(n, e, at, len(l))
		}
		for i, f := range frames {
			if !isSame(f, l[i]) {
				t.Fatalf("%v became %v", f, l[i])
			}
		}
		if again, e := Text(l); e != api.OK || again != s {
			t.Fatalf("%q, then %q, %d", s, again, e)
		}
	}
}

// P10.4: of two that are not alike just one goes ahead, of two that are none does; and what goes ahead of one goes ahead of those behind it.
func TestOrder(t *testing.T) {
	l := frames()
	for _, a := range l {
		for _, b := range l {
			isAlike := a.Id == b.Id && a.Remote == b.Remote
			if (Before(a, b) != Before(b, a)) == isAlike {
				t.Errorf("%d %v and %d %v", a.Id, a.Remote, b.Id, b.Remote)
			}
			for _, c := range l {
				if Before(a, b) && Before(b, c) && !Before(a, c) {
					t.Errorf("%d %v, %d %v, %d %v", a.Id, a.Remote, b.Id, b.Remote, c.Id, c.Remote)
				}
			}
		}
	}
}

// R4: what is handed in is left as it is, within, too, and the room behind it.
func TestArgumentsAreLeft(t *testing.T) {
	room := []byte("abcdefghijkl")
	for n := range 10 {
		f := api.Frame{Id: 7, Data: room[:n]}
		list := []api.Frame{f, {Id: 8}, {Id: 9, Data: room[2:5]}}[:2]
		Check(f)
		Show(f)
		Same(f, api.Frame{Id: 7, Data: room[1:]})
		Before(f, list[1])
		Text(list)
		if string(room) != "abcdefghijkl" {
			t.Fatalf("the room is %q", room)
		}
		if behind := list[:3][2]; !isSame(list[0], f) || list[1].Id != 8 || behind.Id != 9 || string(behind.Data) != "cde" {
			t.Fatalf("the list is %v", list[:3])
		}
	}
}

// R4: what is answered stays as it was, whatever is done to other answers, or to what was handed in.
func TestAnswersAreNewMemory(t *testing.T) {
	const s = "001#0102\n002#\n003#0304050607080900\n001#0102\n"
	l, _, _ := Lines(s)
	other, _, _ := Lines(s)
	one, _ := Parse("001#0102")
	two, _ := Parse("001#0102")
	for i := range l {
		spare := l[i].Data[:cap(l[i].Data)]
		for k := range spare {
			spare[k] = '!'
		}
		for k := i + 1; k < len(l); k++ {
			if !isSame(l[k], other[k]) {
				t.Errorf("line %d is changed with line %d", k, i)
			}
		}
	}
	spareFrames := l[len(l):cap(l)]
	for i := range spareFrames {
		spareFrames[i] = api.Frame{Id: 1, Data: []byte("!")}
	}
	spare := one.Data[:cap(one.Data)]
	for k := range spare {
		spare[k] = '!'
	}
	if text, e := Text(other); text != s || e != api.OK {
		t.Errorf("the other answer became %q, %d", text, e)
	}
	if string(two.Data) != "\x01\x02" {
		t.Errorf("the other frame became %x", two.Data)
	}
	f := api.Frame{Id: 1, Data: []byte{1, 2}}
	shown, _ := Show(f)
	text, _ := Text([]api.Frame{f})
	f.Data[0] = 255
	if shown != "001#0102" || text != "001#0102\n" {
		t.Errorf("%q, %q", shown, text)
	}
}

// R5: the same arguments have the same answer, whatever was called between.
func TestOneAnswer(t *testing.T) {
	const s = "181#0aff\n005#R\n"
	first, _, _ := Lines(s)
	for _, wrong := range []string{"", "x\n", "800#\n", "001#001122334455667788\n", "7ff#R\n"} {
		Lines(wrong)
		Parse(wrong)
		Show(api.Frame{Id: 4000})
		Text([]api.Frame{{Id: 3}, {Id: -1}})
	}
	again, e, at := Lines(s)
	if e != api.OK || at != 0 || len(again) != 2 || !isSame(first[0], again[0]) || !isSame(first[1], again[1]) {
		t.Errorf("%v, then %v, %d, %d", first, again, e, at)
	}
	if text, e := Text(again); text != s || e != api.OK {
		t.Errorf("%q, %d", text, e)
	}
}

// The chapter's examples.
func TestExamples(t *testing.T) {
	if s, e := Show(api.Frame{Id: 0x181, Data: []byte{0x0a, 0xff}}); s != "181#0aff" || e != api.OK {
		t.Error(s, e)
	}
	if s, e := Show(api.Frame{Id: 5, Remote: true}); s != "005#R" || e != api.OK {
		t.Error(s, e)
	}
	if f, e := Parse("800#"); !isZero(f) || e != api.ErrRange {
		t.Error(f, e)
	}
	if f, e := Parse("001#0"); !isZero(f) || e != api.ErrForm {
		t.Error(f, e)
	}
	if f, e := Parse("1#"); !isZero(f) || e != api.ErrForm {
		t.Error(f, e)
	}
}
