package fault

import (
	"errors"
	"fmt"
	"math"
	"slices"
	"strings"
	"testing"
	"unsafe"

	"wheelhouse/api"
)

// known is a code with what the chapter says of it.
type known struct {
	code   uint32
	family int
	words  string
}

// knowns are all of them, their numbers written out, so that they hang on nothing of the package.
func knowns() []known {
	return []known{
		{0x05030000, 1, "toggle bit not alternated"},
		{0x05040000, 1, "protocol timed out"},
		{0x05040001, 1, "unknown command"},
		{0x05040002, 1, "invalid block size"},
		{0x05040003, 1, "invalid sequence number"},
		{0x05040004, 1, "sum error"},
		{0x05040005, 1, "out of memory"},
		{0x06010000, 2, "unsupported access"},
		{0x06010001, 2, "write only"},
		{0x06010002, 2, "read only"},
		{0x06020000, 2, "no such object"},
		{0x06040041, 3, "can not be mapped"},
		{0x06040042, 3, "mapping too long"},
		{0x06040043, 3, "parameter incompatible"},
		{0x06040047, 3, "internal incompatibility"},
		{0x06060000, 5, "hardware error"},
		{0x06070010, 3, "length does not match"},
		{0x06070012, 3, "too long"},
		{0x06070013, 3, "too short"},
		{0x06090011, 2, "no such sub-index"},
		{0x06090030, 4, "value out of range"},
		{0x06090031, 4, "value too high"},
		{0x06090032, 4, "value too low"},
		{0x08000000, 5, "general error"},
		{0x08000020, 5, "can not be stored"},
		{0x08000021, 5, "local control"},
		{0x08000022, 5, "device state"},
		{0x08000024, 5, "no data"},
	}
}

// find is what the chapter says of a code; false, if it is not known.
func find(code uint32) (known, bool) {
	for _, k := range knowns() {
		if k.code == code {
			return k, true
		}
	}
	return known{}, false
}

// strangers are codes that are not known: small and great ones, and those that one bit, or one step, parts from a known one.
func strangers() []uint32 {
	l := []uint32{0, 1, 2, 5, 7, 0x0503, 0x06040040, 0x06040044, 0x0607, 0x08000023, 0x12345678, math.MaxInt32, 1 << 31, math.MaxUint32}
	for _, k := range knowns() {
		near := []uint32{k.code - 1, k.code + 1, k.code >> 16, k.code<<16 | k.code>>16}
		for bit := range 32 {
			near = append(near, k.code^1<<bit)
		}
		for _, code := range near {
			if _, is := find(code); !is {
				l = append(l, code)
			}
		}
	}
	slices.Sort(l)
	return slices.Compact(l)
}

// texts are of all kinds, those among them that links and families have.
func texts() []string {
	l := []string{"", " ", "off", "of", "Off", "off ", ": ", "unknown", "protocol", "access", "size", "value", "device", "a\x00b", "\xff\xfe", "Schlüssel 鍵", "two\nlines", "off: off", strings.Repeat("long ", 1000)}
	for _, k := range knowns() {
		l = append(l, k.words, fmt.Sprintf("%08x %s", k.code, k.words))
	}
	return l
}

// chain is what is known of a fault otherwise: its links' codes, the outermost one first, and in what they end.
type chain struct {
	codes []uint32
	text  string
	said  bool
}

func (c chain) family() int {
	if len(c.codes) == 0 {
		return 0
	}
	if c.said {
		return 5
	}
	k, _ := find(c.codes[len(c.codes)-1])
	return k.family
}

func (c chain) say() string {
	var parts []string
	for _, code := range c.codes {
		k, _ := find(code)
		parts = append(parts, fmt.Sprintf("%08x %s", k.code, k.words))
	}
	if c.said {
		parts = append(parts, c.text)
	}
	return strings.Join(parts, ": ")
}

func (c chain) under(code uint32) chain {
	return chain{codes: append([]uint32{code}, c.codes...), text: c.text, said: c.said}
}

// check holds all that a fault answers against its chain.
func check(t *testing.T, what string, f Fault, c chain) {
	t.Helper()
	code := uint32(0)
	if len(c.codes) > 0 {
		code = c.codes[0]
	}
	if f.Code() != code {
		t.Errorf("%s: Code %08x; want %08x", what, f.Code(), code)
	}
	if f.Family() != c.family() {
		t.Errorf("%s: Family %d; want %d", what, f.Family(), c.family())
	}
	if f.Depth() != len(c.codes) {
		t.Errorf("%s: Depth %d; want %d", what, f.Depth(), len(c.codes))
	}
	if say := f.Say(); say != c.say() {
		t.Errorf("%s: Say %q; want %q", what, say, c.say())
	}
	for _, k := range knowns() {
		if has, want := f.Has(k.code), slices.Contains(c.codes, k.code); has != want {
			t.Errorf("%s: Has(%08x) = %t; want %t", what, k.code, has, want)
		}
	}
	for _, code := range []uint32{0, 7, math.MaxUint32} {
		if f.Has(code) {
			t.Errorf("%s: Has(%08x)", what, code)
		}
	}
	for _, text := range append(texts(), c.text, c.text+"x", c.say()) {
		if says, want := f.Says(text), c.said && text == c.text; says != want {
			t.Errorf("%s: Says(%q) = %t; want %t", what, text, says, want)
		}
	}
}

// draw answers numbers without a pattern, the same ones in each run.
func draw() func(n int) int {
	state := uint64(0x9e3779b97f4a7c15)
	return func(n int) int {
		state = state*6364136223846793005 + 1442695040888963407
		return int(state>>33) % n
	}
}

// The chapter's codes are those of api.
func TestCodesAreThoseOfApi(t *testing.T) {
	given := []uint32{
		api.AbToggle, api.AbTimeout, api.AbCommand, api.AbBlockSize, api.AbSequence, api.AbCrc, api.AbMemory,
		api.AbAccess, api.AbWriteOnly, api.AbReadOnly, api.AbNoObject, api.AbNoMap, api.AbMapLong, api.AbParam, api.AbInside,
		api.AbHardware, api.AbLength, api.AbTooLong, api.AbTooShort, api.AbNoSub, api.AbValue, api.AbHigh, api.AbLow,
		api.AbGeneral, api.AbStore, api.AbLocal, api.AbState, api.AbNoData,
	}
	if len(given) != len(knowns()) {
		t.Errorf("%d codes; want %d", len(knowns()), len(given))
	}
	for i, k := range knowns() {
		if k.code != given[i] {
			t.Errorf("%08x %s; api has %08x", k.code, k.words, given[i])
		}
	}
}

// P4.1, P4.2, P4.3
func TestNewOfEachCode(t *testing.T) {
	for _, k := range knowns() {
		check(t, k.words, New(k.code), chain{codes: []uint32{k.code}})
	}
}

// P4.1: the cause of New is the error of the family, one for all of its codes.
func TestNewWrapsTheErrorOfItsFamily(t *testing.T) {
	for _, a := range knowns() {
		cause := New(a.code).Unwrap()
		if cause == nil || errors.Unwrap(cause) != nil {
			t.Errorf("%s: the cause is %v", a.words, cause)
		}
		for _, b := range knowns() {
			if is, want := errors.Is(New(b.code), cause), a.family == b.family; is != want {
				t.Errorf("%s, %s: one family is %t; want %t", a.words, b.words, is, want)
			}
		}
	}
}

// P4.1, P4.2: a code that is not known counts as AbGeneral, wherever it is handed in.
func TestStrangersCountAsGeneral(t *testing.T) {
	for _, code := range strangers() {
		what := fmt.Sprintf("%08x", code)
		check(t, what, New(code), chain{codes: []uint32{api.AbGeneral}})
		check(t, "under "+what, Under(code, New(api.AbLow)), chain{codes: []uint32{api.AbGeneral, api.AbLow}})
		check(t, "none under "+what, Under(code, Fault{}), chain{codes: []uint32{api.AbGeneral}})
		check(t, "of "+what, Of(code, "off"), chain{codes: []uint32{api.AbGeneral}, text: "off", said: true})
		check(t, what+" within", Under(api.AbLow, New(code)), chain{codes: []uint32{api.AbLow, api.AbGeneral}})
	}
}

// P4.2: a code that is not known is not among the links, though one of them was made of it.
func TestHasOfStrangers(t *testing.T) {
	for _, code := range strangers() {
		for _, f := range []Fault{{}, New(code), Of(code, "off"), Under(code, New(code)), Under(api.AbCrc, Of(code, ""))} {
			if f.Has(code) {
				t.Errorf("%q has %08x", f.Say(), code)
			}
		}
	}
}

// P4.1, P4.2, P4.3
func TestUnderAllPairs(t *testing.T) {
	for _, a := range knowns() {
		for _, b := range knowns() {
			f := Under(a.code, New(b.code))
			codes := []uint32{a.code, b.code}
			if f.Code() != a.code || f.Family() != b.family || f.Depth() != 2 || f.Say() != (chain{codes: codes}).say() {
				t.Errorf("%s under %s: %08x %d %d %q", b.words, a.words, f.Code(), f.Family(), f.Depth(), f.Say())
			}
			for _, c := range knowns() {
				if has, want := f.Has(c.code), slices.Contains(codes, c.code); has != want {
					t.Errorf("%q: Has(%08x) = %t", f.Say(), c.code, has)
				}
			}
		}
	}
}

// P4.1: a cause that is none leads to New.
func TestUnderNone(t *testing.T) {
	for _, k := range knowns() {
		f := Under(k.code, Fault{})
		check(t, k.words, f, chain{codes: []uint32{k.code}})
		if f != New(k.code) {
			t.Errorf("%s: %v; want New of it", k.words, f)
		}
		check(t, "twice", Under(api.AbStore, f), chain{codes: []uint32{api.AbStore, k.code}})
	}
}

// P4.1, P4.2, P4.3: a text is of no family, whatever the code.
func TestOfEachCodeAndText(t *testing.T) {
	for _, k := range knowns() {
		check(t, "of", Of(k.code, "off"), chain{codes: []uint32{k.code}, text: "off", said: true})
	}
	for _, text := range texts() {
		c := chain{codes: []uint32{api.AbCrc}, text: text, said: true}
		check(t, "of", Of(api.AbCrc, text), c)
		check(t, "under", Under(api.AbHigh, Of(api.AbCrc, text)), c.under(api.AbHigh))
	}
}

// P4.3: the empty text is a text.
func TestOfTheEmptyText(t *testing.T) {
	f := Of(api.AbHardware, "")
	if !f.Says("") || f.Say() != "06060000 hardware error: " || f.Family() != 5 || f.Depth() != 1 {
		t.Errorf("%q: Says %t, Family %d, Depth %d", f.Say(), f.Says(""), f.Family(), f.Depth())
	}
	g := Under(api.AbToggle, Of(api.AbToggle, ""))
	if !g.Says("") || g.Say() != "05030000 toggle bit not alternated: 05030000 toggle bit not alternated: " || g.Family() != 5 {
		t.Errorf("%q: Says %t, Family %d", g.Say(), g.Says(""), g.Family())
	}
	if New(api.AbHardware).Says("") || Under(api.AbHardware, New(api.AbLow)).Says("") {
		t.Error("the empty text stands where none was handed in")
	}
}

// P4.2: a chain that ends in a text is of family 5, though its links are of others.
func TestFamilyOfAChainThatEndsInAText(t *testing.T) {
	for _, k := range knowns() {
		f := Of(k.code, k.words)
		for _, outer := range knowns() {
			if family := Under(outer.code, f).Family(); family != 5 {
				t.Errorf("%s under %s: Family %d", k.words, outer.words, family)
			}
		}
		if f.Family() != 5 {
			t.Errorf("%s: Family %d", k.words, f.Family())
		}
	}
}

// P4.3: what links and families say are no texts of Of's.
func TestSaysNothingOfLinks(t *testing.T) {
	for _, k := range knowns() {
		for _, f := range []Fault{New(k.code), Under(k.code, New(k.code)), Under(k.code, Of(k.code, "off"))} {
			for _, text := range []string{"", Text(k.code), k.words, fmt.Sprintf("%08x", k.code), New(k.code).Unwrap().Error(), New(k.code).Error(), f.Say(), f.Error(), "of", "off "} {
				if f.Says(text) {
					t.Errorf("%q says %q", f.Say(), text)
				}
			}
		}
	}
	if f := Under(api.AbLow, Of(api.AbCrc, "05040004 sum error")); !f.Says("05040004 sum error") || f.Says("06090032 value too low") {
		t.Errorf("%q: a text is Of's, though a link says the same", f.Say())
	}
}

// The zero Fault is none, in every call.
func TestNone(t *testing.T) {
	var none Fault
	check(t, "none", none, chain{})
	if none.Error() != "" || none.Unwrap() != nil || none != (Fault{}) {
		t.Errorf("none: %q, %v", none.Error(), none.Unwrap())
	}
	for _, code := range strangers() {
		if none.Has(code) {
			t.Errorf("none has %08x", code)
		}
		if New(code) == none || Under(code, none) == none || Of(code, "") == none {
			t.Errorf("what is made of %08x is none", code)
		}
	}
}

// P4.3
func TestKnownAndTextOfEachCode(t *testing.T) {
	for _, k := range knowns() {
		if want := fmt.Sprintf("%08x %s", k.code, k.words); !Known(k.code) || Text(k.code) != want {
			t.Errorf("%08x: %t, %q; want %q", k.code, Known(k.code), Text(k.code), want)
		}
	}
}

// P4.3
func TestKnownAndTextOfStrangers(t *testing.T) {
	for _, code := range strangers() {
		if want := fmt.Sprintf("%08x unknown", code); Known(code) || Text(code) != want {
			t.Errorf("%08x: %t, %q; want %q", code, Known(code), Text(code), want)
		}
	}
	for code, want := range map[uint32]string{
		0:              "00000000 unknown",
		7:              "00000007 unknown",
		0xabcdef:       "00abcdef unknown",
		0x0503:         "00000503 unknown",
		math.MaxUint32: "ffffffff unknown",
	} {
		if text := Text(code); text != want {
			t.Errorf("Text(%#x) = %q; want %q", code, text, want)
		}
	}
}

// P4.3: all codes of each class that has a known one, and of some that have none.
func TestKnownOfAllLowerHalves(t *testing.T) {
	is := map[uint32]bool{}
	for _, k := range knowns() {
		is[k.code] = true
	}
	for _, class := range []uint32{0, 0x0502, 0x0503, 0x0504, 0x0505, 0x0600, 0x0601, 0x0602, 0x0603, 0x0604, 0x0605, 0x0606, 0x0607, 0x0608, 0x0609, 0x060a, 0x0800, 0x0801, 0x8000, 0xffff} {
		for low := range uint32(1 << 16) {
			if code := class<<16 | low; Known(code) != is[code] {
				t.Errorf("Known(%08x) = %t", code, !is[code])
			}
		}
	}
}

// P4.3: all upper halves, with each lower half that a known code has.
func TestKnownOfAllUpperHalves(t *testing.T) {
	is := map[uint32]bool{}
	for _, k := range knowns() {
		is[k.code] = true
	}
	for _, k := range knowns() {
		for high := range uint32(1 << 16) {
			if code := high<<16 | k.code&0xffff; Known(code) != is[code] {
				t.Errorf("Known(%08x) = %t", code, !is[code])
			}
		}
	}
}

// P4.1 to P4.4: chains without a pattern, each level of them looked at anew when all is wrapped.
func TestChainsOfAllKinds(t *testing.T) {
	next, all, words, odd := draw(), knowns(), texts(), strangers()
	for range 40 {
		var faults []Fault
		var chains []chain
		f, c := Fault{}, chain{}
		if next(3) == 0 {
			k, text := all[next(len(all))], words[next(len(words))]
			f, c = Of(k.code, text), chain{codes: []uint32{k.code}, text: text, said: true}
		}
		for range 1 + next(9) {
			faults, chains = append(faults, f), append(chains, c)
			if next(6) == 0 {
				f, c = Under(odd[next(len(odd))], f), c.under(api.AbGeneral)
				continue
			}
			k := all[next(len(all))]
			f, c = Under(k.code, f), c.under(k.code)
		}
		faults, chains = append(faults, f), append(chains, c)
		for i := range faults {
			check(t, chains[i].say(), faults[i], chains[i])
		}
	}
}

// deep is a fault with a code of its own far within: links of AbGeneral about one of AbCrc, about the innermost one.
func deep(innermost Fault, about, within int) Fault {
	f := innermost
	for range within {
		f = Under(api.AbGeneral, f)
	}
	f = Under(api.AbCrc, f)
	for range about {
		f = Under(api.AbGeneral, f)
	}
	return f
}

// P4.4: as deep as things may be nested in one another.
func TestDeepChains(t *testing.T) {
	for _, n := range []int{0, 1, 2, 10, 1000, 1<<15 - 1} {
		f := Under(api.AbStore, deep(New(api.AbHigh), n, n))
		if f.Code() != api.AbStore || f.Family() != 4 || f.Depth() != 2*n+3 {
			t.Errorf("%d: Code %08x, Family %d, Depth %d", n, f.Code(), f.Family(), f.Depth())
		}
		if !f.Has(api.AbStore) || !f.Has(api.AbCrc) || !f.Has(api.AbHigh) || f.Has(api.AbGeneral) != (n > 0) || f.Has(api.AbLow) || f.Has(7) {
			t.Errorf("%d: it has others", n)
		}
		links := strings.Repeat("08000000 general error: ", n)
		if f.Say() != "08000020 can not be stored: "+links+"05040004 sum error: "+links+"06090031 value too high" {
			t.Errorf("%d: it says something else", n)
		}
		if f.Says("") || f.Says("06090031 value too high") {
			t.Errorf("%d: a text stands in it", n)
		}
	}
}

// P4.4, with a text at the end.
func TestDeepChainsThatEndInAText(t *testing.T) {
	for _, n := range []int{0, 1, 2, 10, 1000, 1<<15 - 1} {
		f := deep(Of(api.AbHigh, "off"), n, n)
		if f.Family() != 5 || f.Depth() != 2*n+2 || !f.Says("off") || f.Says("of") || f.Says("") {
			t.Errorf("%d: Family %d, Depth %d", n, f.Family(), f.Depth())
		}
		if !f.Has(api.AbCrc) || !f.Has(api.AbHigh) || f.Has(api.AbStore) || !strings.HasSuffix(f.Say(), ": 06090031 value too high: off") {
			t.Errorf("%d: it has others", n)
		}
	}
}

// P4.4: each level adds one link and one code, and leaves the family.
func TestEachLevelOfAChain(t *testing.T) {
	next, all := draw(), knowns()
	for _, innermost := range all {
		f, c := New(innermost.code), chain{codes: []uint32{innermost.code}}
		for depth := 2; depth < 60; depth++ {
			outer := all[next(len(all))]
			f, c = Under(outer.code, f), c.under(outer.code)
			if f.Code() != outer.code || f.Family() != innermost.family || f.Depth() != depth {
				t.Errorf("%s, %d deep: %08x, %d, %d", innermost.words, depth, f.Code(), f.Family(), f.Depth())
			}
			for _, k := range all {
				if f.Has(k.code) != slices.Contains(c.codes, k.code) {
					t.Errorf("%s, %d deep: Has(%08x) = %t", innermost.words, depth, k.code, f.Has(k.code))
				}
			}
		}
	}
}

// A fault is an error that wraps its cause: others that wrap it are asked as it is.
func TestFaultsAreErrors(t *testing.T) {
	inner := Of(api.AbStore, "off")
	outer := Under(api.AbHigh, inner)
	told := fmt.Errorf("told: %w", outer)
	var f Fault
	if !errors.As(told, &f) || f != outer || !errors.Is(told, inner) || errors.Is(told, Of(api.AbStore, "of")) || errors.Is(told, New(api.AbStore)) {
		t.Errorf("%v", told)
	}
	if text := inner.Unwrap(); text == nil || text.Error() != "off" || errors.Unwrap(text) != nil {
		t.Errorf("the cause is %v", text)
	}
	if told.Error() != "told: "+outer.Say() || outer.Unwrap() != error(inner) || outer.Error() != outer.Say() {
		t.Errorf("%v", told)
	}
}

// R4: the text that is handed in is not kept: other bytes in its memory are not seen.
func TestTextsAreNotKept(t *testing.T) {
	room := []byte("off, and room behind it")
	f := Of(api.AbHardware, unsafe.String(&room[0], 3))
	say := f.Say()
	copy(room, "OFF")
	if !f.Says("off") || f.Says("OFF") || f.Say() != say || say != "06060000 hardware error: off" {
		t.Errorf("%q, then %q", say, f.Say())
	}
	if string(room) != "OFF, and room behind it" {
		t.Errorf("the room is %q", room)
	}
}

// R4: what is handed in as a cause stays as it is, and can be handed in again.
func TestCausesAreLeft(t *testing.T) {
	for _, cause := range []Fault{{}, New(api.AbLow), Of(api.AbStore, "off"), Under(api.AbHigh, Of(7, ""))} {
		was, say, depth, family := cause, cause.Say(), cause.Depth(), cause.Family()
		a, b := Under(api.AbCrc, cause), Under(api.AbToggle, cause)
		Under(api.AbMemory, a)
		if cause != was || cause.Say() != say || cause.Depth() != depth || cause.Family() != family {
			t.Errorf("%q was %q", cause.Say(), say)
		}
		if a.Code() != api.AbCrc || b.Code() != api.AbToggle || a.Has(api.AbToggle) || b.Has(api.AbCrc) || a.Depth() != depth+1 || b.Depth() != depth+1 {
			t.Errorf("%q, %q of one cause", a.Say(), b.Say())
		}
		cause = New(api.AbNoData)
		if a.Has(api.AbNoData) || a.Depth() != depth+1 {
			t.Errorf("%q has what came into its cause's place", a.Say())
		}
	}
}

// R5: the same arguments have the same answer, whatever was called between.
func TestOneAnswer(t *testing.T) {
	made := func() []Fault {
		return []Fault{{}, New(api.AbLow), New(7), Of(api.AbStore, "off"), Under(api.AbHigh, Of(7, "")), deep(New(api.AbCrc), 20, 20)}
	}
	first, second := made(), made()
	for i, f := range first {
		if f != second[i] || f.Say() != second[i].Say() || f.Say() != f.Say() || f.Family() != f.Family() || f.Depth() != f.Depth() {
			t.Errorf("%q, then %q", f.Say(), second[i].Say())
		}
		for j, g := range second {
			if i != j && f == g {
				t.Errorf("%q is %q", f.Say(), g.Say())
			}
		}
	}
}

// The chapter's examples.
func TestExamples(t *testing.T) {
	if f := New(api.AbToggle); f.Code() != 0x05030000 || f.Family() != 1 {
		t.Errorf("%08x, %d", f.Code(), f.Family())
	}
	if f := Under(api.AbGeneral, New(api.AbHigh)); f.Code() != api.AbGeneral || f.Family() != 4 || f.Depth() != 2 || !f.Has(api.AbHigh) {
		t.Errorf("%q", f.Say())
	}
	if f := New(7); f.Code() != api.AbGeneral {
		t.Errorf("%08x", f.Code())
	}
	if text := Text(0x06010002); text != "06010002 read only" {
		t.Errorf("%q", text)
	}
	if say := Of(api.AbHardware, "off").Say(); say != "06060000 hardware error: off" {
		t.Errorf("%q", say)
	}
}
