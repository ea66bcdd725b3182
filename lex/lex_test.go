package lex

import (
	"fmt"
	"math"
	"math/big"
	"regexp"
	"slices"
	"strconv"
	"strings"
	"testing"
	"unsafe"

	"wheelhouse/api"
)

// The numbers of the errors, of the kinds and of the limit, written out as api has them.
const (
	ok, errBig, errSign, errToken = 0, 3, 11, 12

	word, num, hex, text, mark = 1, 2, 3, 4, 5

	most = 8192
)

// draw gives numbers below n without a pattern, the same ones each time.
func draw() func(n int) int {
	x := uint64(88172645463325252)
	return func(n int) int {
		x ^= x << 13
		x ^= x >> 7
		x ^= x << 17
		return int(x>>1) % n
	}
}

func pick[T any](next func(int) int, l []T) T {
	return l[next(len(l))]
}

// The tokens' shapes as the chapter's words say them, as patterns: those of the kinds in the order in which the longer one comes first.
var (
	gaps   = regexp.MustCompile(`^(?:[ \t\n\r]|![^\n]*)*`)
	opened = regexp.MustCompile(`^"`)
	right  = regexp.MustCompile(`^(?:0|-?[1-9][0-9]*)$`)
	shapes = []struct {
		kind    int
		pattern *regexp.Regexp
	}{
		{hex, regexp.MustCompile(`^0x[0-9a-f]+`)},
		{num, regexp.MustCompile(`^-?[0-9]+`)},
		{word, regexp.MustCompile(`^[a-z][a-z0-9_]*`)},
		{text, regexp.MustCompile(`^(?s:"(?:\\.|[^"\\])*"|#[0-9a-f]*)`)},
		{mark, regexp.MustCompile(`^(?:\.\.|[:\[\]=;])`)},
	}
)

// model is Scan by the patterns, and by numbers of any size.
func model(s string) ([]api.Token, api.Errno, int) {
	if len(s) > most {
		return nil, errBig, 0
	}
	var l []api.Token
	at := 0
	for {
		at += len(gaps.FindString(s[at:]))
		if at == len(s) {
			return l, ok, 0
		}
		t, wrong := modelFirst(s[at:])
		if wrong != ok {
			return nil, wrong, at
		}
		t.At = at
		l = append(l, t)
		at += len(t.Text)
	}
}

func modelFirst(s string) (api.Token, api.Errno) {
	for _, p := range shapes {
		piece := p.pattern.FindString(s)
		if piece == "" {
			continue
		}
		n := big.NewInt(0)
		switch p.kind {
		case hex:
			if len(piece) > 6 {
				return api.Token{}, errToken
			}
			n.SetString(piece[2:], 16)
		case num:
			if n.SetString(piece, 10); !right.MatchString(piece) || !n.IsInt64() {
				return api.Token{}, errToken
			}
		}
		return api.Token{Kind: p.kind, Text: piece, N: n.Int64()}, ok
	}
	if opened.MatchString(s) {
		return api.Token{}, errToken
	}
	return api.Token{}, errSign
}

// check holds Scan against the model, and against the laws of one text.
func check(t *testing.T, s string) ([]api.Token, api.Errno) {
	t.Helper()
	want, wantE, wantAt := model(s)
	got, e, at := Scan(s)
	if !slices.Equal(got, want) || e != wantE || at != wantAt {
		t.Fatalf("%.200q: %+v, %d at %d; want %+v, %d at %d", s, got, e, at, want, wantE, wantAt)
	}
	for _, k := range got {
		if !strings.HasPrefix(s[k.At:], k.Text) {
			t.Fatalf("%.200q: %+v does not stand there", s, k)
		}
	}
	if written := Text(got); len(written) <= most {
		again, e, at := Scan(written)
		if !slices.EqualFunc(again, got, Same) || e != ok || at != 0 {
			t.Fatalf("%.200q: its Text has %+v, %d at %d", s, again, e, at)
		}
	}
	return got, e
}

// none holds a refusal of Scan.
func none(t *testing.T, s string, e api.Errno, at int) {
	t.Helper()
	if l, gotE, gotAt := Scan(s); l != nil || gotE != e || gotAt != at {
		t.Errorf("%.200q: %+v, %d at %d; want %d at %d", s, l, gotE, gotAt, e, at)
	}
	check(t, s)
}

// all holds that a text has just these tokens.
func all(t *testing.T, s string, want ...api.Token) {
	t.Helper()
	if l, e, at := Scan(s); !slices.Equal(l, want) || e != ok || at != 0 {
		t.Errorf("%.200q: %+v, %d at %d; want %+v", s, l, e, at, want)
	}
	check(t, s)
}

// each are tokens of all kinds, each with what it is; not all may stand side by side.
func each() []api.Token {
	return []api.Token{
		{Kind: word, Text: "a"},
		{Kind: word, Text: "z"},
		{Kind: word, Text: "x"},
		{Kind: word, Text: "u16"},
		{Kind: word, Text: "a_z0_9_"},
		{Kind: word, Text: "much_longer_than_sixteen_letters"},
		{Kind: hex, Text: "0x0", N: 0},
		{Kind: hex, Text: "0xa", N: 10},
		{Kind: hex, Text: "0x0f", N: 15},
		{Kind: hex, Text: "0x1017", N: 0x1017},
		{Kind: hex, Text: "0x0000", N: 0},
		{Kind: hex, Text: "0xffff", N: 65535},
		{Kind: num, Text: "0", N: 0},
		{Kind: num, Text: "7", N: 7},
		{Kind: num, Text: "10", N: 10},
		{Kind: num, Text: "-1", N: -1},
		{Kind: num, Text: "9223372036854775807", N: math.MaxInt64},
		{Kind: num, Text: "-9223372036854775808", N: math.MinInt64},
		{Kind: text, Text: `""`},
		{Kind: text, Text: `"a b"`},
		{Kind: text, Text: `"\""`},
		{Kind: text, Text: `"\\"`},
		{Kind: text, Text: `"\\\""`},
		{Kind: text, Text: `"\x"`},
		{Kind: text, Text: "\"! no remark\n#:\x00\xff\u00e9\""},
		{Kind: text, Text: "\"\\\u00e9\\\xe2\""},
		{Kind: text, Text: "#"},
		{Kind: text, Text: "#0"},
		{Kind: text, Text: "#0aff"},
		{Kind: text, Text: "#abc"},
		{Kind: mark, Text: ".."},
		{Kind: mark, Text: ":"},
		{Kind: mark, Text: "["},
		{Kind: mark, Text: "]"},
		{Kind: mark, Text: "="},
		{Kind: mark, Text: ";"},
	}
}

// at is a token at another place.
func at(k api.Token, place int) api.Token {
	k.At = place
	return k
}

// separators are blanks and remarks that part two tokens.
func separators() []string {
	return []string{" ", "\t", "\n", "\r", "\r\n\t ", "!\n", "! a \" 0x12345 \xff - !\n", " !!\n!\n", "!\r\n"}
}

// P16.1: each kind of token, alone, and behind and ahead of blanks and remarks.
func TestEachToken(t *testing.T) {
	for _, k := range each() {
		all(t, k.Text, k)
		for _, gap := range separators() {
			all(t, gap+k.Text, at(k, len(gap)))
			all(t, k.Text+gap, k)
			all(t, gap+k.Text+gap+k.Text, at(k, len(gap)), at(k, 2*len(gap)+len(k.Text)))
		}
		all(t, k.Text+" !", k)
		all(t, k.Text+"!\xff", k)
		all(t, k.Text+"! "+strings.ReplaceAll(k.Text, "\n", "\r"), k)
	}
}

// P16.1: two tokens, parted, and side by side.
func TestTwoTokens(t *testing.T) {
	for _, a := range each() {
		for _, b := range each() {
			for _, gap := range separators() {
				all(t, a.Text+gap+b.Text, a, at(b, len(a.Text)+len(gap)))
			}
			check(t, a.Text+b.Text)
		}
	}
}

// P16.1: always the longest that can be.
func TestLongest(t *testing.T) {
	k := func(kind int, s string, n int64, place int) api.Token {
		return api.Token{Kind: kind, Text: s, N: n, At: place}
	}
	all(t, "1a", k(num, "1", 1, 0), k(word, "a", 0, 1))
	all(t, "a1", k(word, "a1", 0, 0))
	all(t, "a-1", k(word, "a", 0, 0), k(num, "-1", -1, 1))
	all(t, "5-5", k(num, "5", 5, 0), k(num, "-5", -5, 1))
	all(t, "0x", k(num, "0", 0, 0), k(word, "x", 0, 1))
	all(t, "0xg", k(num, "0", 0, 0), k(word, "xg", 0, 1))
	all(t, "0x_1", k(num, "0", 0, 0), k(word, "x_1", 0, 1))
	all(t, "0x-1", k(num, "0", 0, 0), k(word, "x", 0, 1), k(num, "-1", -1, 2))
	all(t, "0x1g", k(hex, "0x1", 1, 0), k(word, "g", 0, 3))
	all(t, "0x1x2", k(hex, "0x1", 1, 0), k(word, "x2", 0, 3))
	all(t, "0xa0x", k(hex, "0xa0", 160, 0), k(word, "x", 0, 4))
	all(t, "1x1", k(num, "1", 1, 0), k(word, "x1", 0, 1))
	all(t, "10x1", k(num, "10", 10, 0), k(word, "x1", 0, 2))
	all(t, "a0x1", k(word, "a0x1", 0, 0))
	all(t, "#0x1", k(text, "#0", 0, 0), k(word, "x1", 0, 2))
	all(t, "#abcg", k(text, "#abc", 0, 0), k(word, "g", 0, 4))
	all(t, "##1#", k(text, "#", 0, 0), k(text, "#1", 0, 1), k(text, "#", 0, 3))
	all(t, `"a""b"`, k(text, `"a"`, 0, 0), k(text, `"b"`, 0, 3))
	all(t, `"a\"b"c`, k(text, `"a\"b"`, 0, 0), k(word, "c", 0, 6))
	all(t, "1..2", k(num, "1", 1, 0), k(mark, "..", 0, 1), k(num, "2", 2, 3))
	all(t, "....", k(mark, "..", 0, 0), k(mark, "..", 0, 2))
	all(t, "[0]", k(mark, "[", 0, 0), k(num, "0", 0, 1), k(mark, "]", 0, 2))
	all(t, "::", k(mark, ":", 0, 0), k(mark, ":", 0, 1))
}

// P16.1: nothing but blanks and remarks.
func TestNoTokens(t *testing.T) {
	for _, s := range append(separators(), "", "!", "!!", "! x", "!\n!", " ! \xff\x00 !", strings.Repeat(" ", most), "!"+strings.Repeat("a", most-1)) {
		all(t, s)
	}
}

// P16.1: a remark ends at a byte 10, not at one of 13, and begins wherever no token goes on.
func TestRemarks(t *testing.T) {
	all(t, "a!b\nc", at(each()[0], 0), api.Token{Kind: word, Text: "c", At: 4})
	all(t, "a!b\rc", each()[0])
	all(t, "!\"\na!\"", at(each()[0], 3))
	all(t, "\"a!\"", api.Token{Kind: text, Text: `"a!"`})
	none(t, "!\n-", errSign, 2)
	none(t, "a!\n!\"\n\"", errToken, 6)
	none(t, "..!\n.!\n.", errSign, 4)
}

// P16.1: each byte, where a token may begin, behind each token, and within a text or a remark.
func TestEachByte(t *testing.T) {
	for c := range 256 {
		s := string([]byte{byte(c)})
		begins := strings.ContainsAny(s, "abcdefghijklmnopqrstuvwxyz0123456789\"#:[]=; \t\n\r!") && c < 128
		if _, e, at := Scan(s); (e == errSign) == begins || at != 0 {
			t.Errorf("%q: %d at %d", s, e, at)
		}
		for _, k := range each() {
			check(t, k.Text+s)
			check(t, s+k.Text)
			check(t, k.Text+s+k.Text)
			check(t, k.Text+" "+s+" "+k.Text)
		}
		all(t, "\"\\"+s+"\"", api.Token{Kind: text, Text: "\"\\" + s + "\""})
		if s != "\"" && s != "\\" {
			all(t, "\""+s+"\"", api.Token{Kind: text, Text: "\"" + s + "\""})
		}
		if s != "\n" {
			all(t, "!"+s+"a\"")
		}
	}
}

// P16.1: bytes that begin no token, each at its place.
func TestErrSign(t *testing.T) {
	for _, s := range []string{"-", "--1", "- 5", "-a", "-#", "-!", "-\n1", ".", ". .", ".1", ".a.", "A", "Z", "_", "_a", "\\", "'", ",", "(", "{", "+1", "/", "*", "&", "|", "@", "`", "~", "$", "%", "?", "<", ">", "^", "\x00", "\x01", "\x0b", "\x0c", "\x1f", "\x7f", "\x80", "\x85", "\xa0", "\xff", "\u00e9", "\u00a0", "\u2028", "\ufffd", "\u0661"} {
		none(t, s, errSign, 0)
		for _, ahead := range []string{" ", "a ", "0 ", "0x1 ", "\"\" ", "# ", ".. ", ":", "! -\n", "\n\n", "\"\u00e9\xff\" "} {
			none(t, ahead+s, errSign, len(ahead))
			none(t, ahead+s+"\"", errSign, len(ahead))
			none(t, ahead+s+" 07 0x12345 -", errSign, len(ahead))
		}
	}
	none(t, "a.b", errSign, 1)
	none(t, "...", errSign, 2)
	none(t, "1.5", errSign, 1)
	none(t, "aB", errSign, 1)
	none(t, "0X1", errSign, 1)
	none(t, "0xF", errSign, 2)
	none(t, "0xfF", errSign, 3)
	none(t, "#0F", errSign, 2)
	none(t, "5-", errSign, 1)
	none(t, "a\u00e9", errSign, 1)
	none(t, "\"a\"\xff", errSign, 3)
}

// P16.1: tokens that can't be, each at its place.
func TestErrToken(t *testing.T) {
	for _, s := range []string{"07", "00", "000", "-0", "-07", "-00", "00x1", "-0x1", "01a", "9223372036854775808", "-9223372036854775809", "18446744073709551616", "18446744073709551617", "99999999999999999999", strings.Repeat("9", 4000), "-" + strings.Repeat("1", 4000), "0x12345", "0x00000", "0x00001", "0xfffff", "0x10000000000000000", "0x" + strings.Repeat("0", 4000), "\"", "\"a", "\"a\\", "\"\\\"", "\"\\\\\\\"", "\"!", "\"\n", "\"" + strings.Repeat("a", 4000), "\"\xff", "\"\u00e9\\\u00e9"} {
		none(t, s, errToken, 0)
		for _, ahead := range []string{" ", "a ", "0 ", "0x1 ", "\"\" ", "# ", ".. ", ":", "! -\n", "\n\n", "\"\u00e9\xff\" "} {
			none(t, ahead+s, errToken, len(ahead))
			none(t, ahead+s+"\n-", errToken, len(ahead))
			none(t, ahead+s+"\n07", errToken, len(ahead))
		}
	}
	none(t, `"a\" 07`, errToken, 0)
	none(t, `"a" "`, errToken, 4)
	none(t, `"a"b"`, errToken, 4)
	none(t, "5-05", errToken, 1)
}

// P16.1: the first fault from the left, of each two of all kinds.
func TestFirstFault(t *testing.T) {
	faults := map[string]api.Errno{"A": errSign, "-": errSign, ".": errSign, "07": errToken, "0x12345": errToken, "-0": errToken, "\\": errSign}
	for a, e := range faults {
		for b := range faults {
			none(t, a+" "+b, e, 0)
			none(t, "x "+a+" y "+b, e, 2)
			none(t, "x \"\\\"\" "+a+"\n\"", e, 7)
		}
	}
}

// P16.1: hexadecimal numbers of up to four digits, all of them; five digits are too many, whatever they say.
func TestHex(t *testing.T) {
	for n := range 65536 {
		for width := 1; width < 7; width++ {
			s := fmt.Sprintf("0x%0*x", width, n)
			l, e, at := Scan(s)
			if len(s) > 6 {
				if l != nil || e != errToken || at != 0 {
					t.Fatalf("%s: %+v, %d at %d", s, l, e, at)
				}
			} else if want := []api.Token{{Kind: hex, Text: s, N: int64(n)}}; !slices.Equal(l, want) || e != ok || at != 0 {
				t.Fatalf("%s: %+v, %d at %d", s, l, e, at)
			}
		}
	}
}

// P16.1: numbers about all powers of two, with a sign and without, with a nought ahead and without.
func TestNumbers(t *testing.T) {
	for bits := range 70 {
		for _, off := range []int64{-2, -1, 0, 1, 2} {
			n := new(big.Int).Lsh(big.NewInt(1), uint(bits))
			n.Add(n, big.NewInt(off))
			for _, m := range []*big.Int{n, new(big.Int).Neg(n)} {
				s := m.String()
				if m.IsInt64() {
					all(t, s, api.Token{Kind: num, Text: s, N: m.Int64()})
				} else {
					none(t, s, errToken, 0)
				}
				if digits, isBelow := strings.CutPrefix(s, "-"); isBelow {
					none(t, "-0"+digits, errToken, 0)
				} else {
					none(t, "0"+s, errToken, 0)
				}
			}
		}
	}
	for n := int64(-3000); n < 3000; n++ {
		s := strconv.FormatInt(n, 10)
		all(t, s, api.Token{Kind: num, Text: s, N: n})
	}
}

// P16.1: a text of 8192 bytes is read, whatever fills it; one of more is refused ahead of all else.
func TestBig(t *testing.T) {
	for _, piece := range []string{" ", "\n", "a", "a ", "1 ", ":", "..", "#", "#0", "0x1 ", "-1 ", "\"\"", "!", "!\n", "-", "07 ", "\"", "\xff", "\u00e9", "\x00", "\\", "A"} {
		for _, size := range []int{most - 2, most - 1, most} {
			check(t, strings.Repeat(piece, size)[:size])
		}
		for _, size := range []int{most + 1, most + 2, 2 * most, 65536, 65537, 1 << 20} {
			none(t, strings.Repeat(piece, size)[:size], errBig, 0)
		}
	}
	long := strings.Repeat("a", most)
	all(t, long, api.Token{Kind: word, Text: long})
	long = "\"" + long[2:] + "\""
	all(t, long, api.Token{Kind: text, Text: long})
	if l, e, at := Scan(strings.Repeat(";", most)); len(l) != most || e != ok || at != 0 {
		t.Errorf("%d, %d at %d", len(l), e, at)
	}
	none(t, strings.Repeat(" ", most-1)+"-", errSign, most-1)
	none(t, strings.Repeat(" ", most-1)+"\"", errToken, most-1)
	none(t, strings.Repeat(" ", most)+"\"", errBig, 0)
}

// P16.1: all texts of a few signs, held against the patterns.
func TestShortTexts(t *testing.T) {
	const signs = "0x1af-.\"\\#!:\nz_ A\xff"
	said := map[api.Errno]int{}
	var walk func(s string, left int)
	walk = func(s string, left int) {
		_, e := check(t, s)
		said[e]++
		for i := range len(signs) {
			if left > 0 {
				walk(s+signs[i:i+1], left-1)
			}
		}
	}
	walk("", 4)
	for _, e := range []api.Errno{ok, errSign, errToken} {
		if said[e] < 1000 {
			t.Errorf("%d was answered %d times", e, said[e])
		}
	}
}

// P16.1, P16.3: texts of tokens, blanks, remarks and other bytes without a pattern, held against the patterns.
func TestTextsWithoutAPattern(t *testing.T) {
	next := draw()
	said := map[api.Errno]int{}
	for range 40000 {
		var s strings.Builder
		for range next(12) {
			switch next(9) {
			case 0, 1, 2, 3, 4:
				s.WriteString(pick(next, each()).Text)
			case 5, 6, 7:
				s.WriteString(pick(next, separators()))
			case 8:
				if next(4) == 0 {
					s.WriteByte(byte(next(256)))
				}
			}
		}
		_, e := check(t, s.String())
		said[e]++
	}
	for range 40000 {
		b := make([]byte, next(24))
		for i := range b {
			b[i] = pick(next, []byte("abfgxz_019.-\"\\#!:;[]= \n\t\xe2\x82"))
		}
		_, e := check(t, string(b))
		said[e]++
	}
	for _, e := range []api.Errno{ok, errSign, errToken} {
		if said[e] < 1000 {
			t.Errorf("%d was answered %d times", e, said[e])
		}
	}
}

// P16.2: the tokens' Texts with one blank between each two, whatever the tokens are.
func TestText(t *testing.T) {
	for want, l := range map[string][]api.Token{
		"":                 nil,
		"a":                {{Text: "a"}},
		"a b":              {{Text: "a"}, {Text: "b"}},
		"0x1017 : 0":       {{Kind: hex, Text: "0x1017", N: 1}, {Kind: mark, Text: ":", At: 99}, {Kind: num, Text: "0", N: -7}},
		" ":                {{}, {}},
		"  ":               {{}, {}, {}},
		" a ":              {{}, {Text: "a"}, {}},
		"a  b":             {{Text: "a"}, {}, {Text: "b"}},
		"   ":              {{Text: " "}, {Text: " "}},
		"! \n \xff \u00e9": {{Text: "!"}, {Text: "\n"}, {Text: "\xff"}, {Text: "\u00e9"}},
		"x y z":            {{Kind: -1, Text: "x", N: math.MinInt64, At: math.MinInt}, {Kind: math.MaxInt, Text: "y", N: math.MaxInt64}, {Text: "z"}},
	} {
		if got := Text(l); got != want {
			t.Errorf("%+v: %q, not %q", l, got, want)
		}
	}
	if got := Text([]api.Token{}); got != "" {
		t.Errorf("%q", got)
	}
	if got := Text([]api.Token{{}}); got != "" {
		t.Errorf("%q", got)
	}
	many := make([]api.Token, 100000)
	for i := range many {
		many[i].Text = "ab"
	}
	if got, want := Text(many), strings.Repeat("ab ", 100000); got != want[:len(want)-1] {
		t.Errorf("%d bytes, not %d", len(got), len(want)-1)
	}
}

// P16.2: Kind, Text and N count, the place does not.
func TestSame(t *testing.T) {
	for _, kind := range []int{0, 1, 5, -1, math.MinInt, math.MaxInt, 1 << 32} {
		for _, otherKind := range []int{0, 1, 5, -1, math.MinInt, math.MaxInt, 1 << 32} {
			for _, s := range []string{"", "a", "b", "ab", "A", "a ", "\xff", "\ufffd"} {
				for _, otherText := range []string{"", "a", "b", "ab", "A", "a ", "\xff", "\ufffd"} {
					for _, n := range []int64{0, 1, -1, 1 << 32, math.MinInt64, math.MaxInt64} {
						for _, otherN := range []int64{0, 1, -1, 1 << 32, math.MinInt64, math.MaxInt64} {
							a := api.Token{Kind: kind, Text: s, N: n, At: 3}
							b := api.Token{Kind: otherKind, Text: otherText, N: otherN, At: -4}
							want := kind == otherKind && s == otherText && n == otherN
							if Same(a, b) != want || Same(a, at(b, 3)) != want {
								t.Fatalf("%+v, %+v: not %v", a, b, want)
							}
						}
					}
				}
			}
		}
	}
}

// P16.3: the tokens of two texts with a byte 10 between are those of both.
func TestTwoTexts(t *testing.T) {
	next := draw()
	some := func() string {
		var s strings.Builder
		for range next(8) {
			s.WriteString(pick(next, each()).Text + pick(next, separators()))
		}
		if next(4) == 0 {
			s.WriteString("! \"")
		}
		return s.String()
	}
	for range 20000 {
		a, b := some(), some()
		want, e, _ := Scan(a)
		behind, f, _ := Scan(b)
		for _, k := range behind {
			want = append(want, at(k, k.At+len(a)+1))
		}
		if e != ok || f != ok {
			t.Fatalf("%q, %q: %d, %d", a, b, e, f)
		}
		all(t, a+"\n"+b, want...)
	}
}

// P16.3: what Text writes of all tokens, in each order of two, has these tokens.
func TestTextScanned(t *testing.T) {
	l := each()
	for range len(l) {
		for i := range l {
			l[0], l[i] = l[i], l[0]
			got, e, at := Scan(Text(l))
			if !slices.EqualFunc(got, l, Same) || e != ok || at != 0 {
				t.Fatalf("%q: %+v, %d at %d", Text(l), got, e, at)
			}
		}
	}
}

// R4: a text that is handed in is not kept: other bytes in its memory are not seen.
func TestTextsAreNotKept(t *testing.T) {
	const source = "ab 0x1f -7 \"t\" #0a .. ; x"
	room := []byte(source)
	l, _, _ := Scan(unsafe.String(&room[0], len(room)))
	one := []api.Token{{Text: unsafe.String(&room[0], 2)}}
	two := []api.Token{{}, {Text: unsafe.String(&room[0], 2)}}
	first, second := Text(one), Text(two)
	for i := range room {
		room[i] = 'q'
	}
	if want, _, _ := Scan(source); !slices.Equal(l, want) {
		t.Errorf("%+v", l)
	}
	if first != "ab" || second != " ab" {
		t.Errorf("%q, %q", first, second)
	}
}

// R4: tokens that are handed in stay as they are, and the room behind them.
func TestTokensAreLeft(t *testing.T) {
	room := slices.Repeat(each(), 3)
	was := slices.Clone(room)
	for n := range room {
		Text(room[:n])
		Same(room[n], room[0])
	}
	if !slices.Equal(room, was) {
		t.Error("the tokens were changed")
	}
}

// R4: what is answered is new memory, the room behind it, too.
func TestAnswersAreNewMemory(t *testing.T) {
	for _, s := range []string{"", "a", "a b c", "0x1 2 \"\" # ..", "-"} {
		l, _, _ := Scan(s)
		want := slices.Clone(l)
		for i := range l[:cap(l)] {
			l[:cap(l)][i] = api.Token{Kind: 99, Text: "other"}
		}
		if again, _, _ := Scan(s); !slices.Equal(again, want) {
			t.Errorf("%q: %+v, then %+v", s, want, again)
		}
	}
}

// R5: the same text has the same answer, whatever was asked between.
func TestOneAnswer(t *testing.T) {
	texts := []string{"a 0x1 2", "\"", "-", "", "! x", strings.Repeat("a", most+1), "a \"b\\\"c\" #0a"}
	for _, a := range texts {
		l, e, at := Scan(a)
		for _, b := range texts {
			Scan(b)
			again, f, place := Scan(a)
			if !slices.Equal(l, again) || e != f || at != place {
				t.Errorf("%.20q: %+v, %d at %d, then %+v, %d at %d", a, l, e, at, again, f, place)
			}
		}
	}
}

// The chapter's examples.
func TestExamples(t *testing.T) {
	all(t, "0x1017:0 ! x", api.Token{Kind: hex, Text: "0x1017", N: 0x1017}, api.Token{Kind: mark, Text: ":", At: 6}, api.Token{Kind: num, Text: "0", At: 7})
	all(t, "-5..7", api.Token{Kind: num, Text: "-5", N: -5}, api.Token{Kind: mark, Text: "..", At: 2}, api.Token{Kind: num, Text: "7", N: 7, At: 4})
	none(t, "07", errToken, 0)
	none(t, "- 5", errSign, 0)
	none(t, "\"a", errToken, 0)
	all(t, "a \"b\\\"c\" #0a", api.Token{Kind: word, Text: "a"}, api.Token{Kind: text, Text: "\"b\\\"c\"", At: 2}, api.Token{Kind: text, Text: "#0a", At: 9})
}
