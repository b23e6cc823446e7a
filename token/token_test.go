package token_test

import (
	"bytes"
	"math"
	"slices"
	"strings"
	"testing"

	"phosphor/api"
	"phosphor/param"
	"phosphor/token"
)

// told is the tests' own table of the kinds, apart from the package's.
var told = []struct {
	kind                       int
	codes                      string // all that it may have; "" of a kind without a Code
	mark, params, inters, data bool
	opener                     byte
}{
	{kind: 1, codes: span(0x20, 0x7E) + span(0xA0, 0xFF)},
	{kind: 2, codes: span(0x01, 0x17) + span(0x19, 0x1A) + span(0x1C, 0x1F)},
	{kind: 3, codes: span(0x30, 0x7E), inters: true},
	{kind: 4, codes: span(0x40, 0x7E), mark: true, params: true, inters: true, opener: 0x5B},
	{kind: 5, codes: span(0x40, 0x7E), mark: true, params: true, inters: true, data: true, opener: 0x50},
	{kind: 6, data: true, opener: 0x5D},
	{kind: 7, data: true, opener: 0x58},
	{kind: 8, data: true, opener: 0x5E},
	{kind: 9, data: true, opener: 0x5F},
}

const (
	marks     = "\x3C\x3D\x3E\x3F"
	notAlone  = "\x50\x58\x5B\x5C\x5D\x5E\x5F" // no Codes of an Esc without Inters
	firstKind = 1
	lastKind  = 9
)

var (
	interBytes = span(0x20, 0x2F)
	dataBytes  = span(0x08, 0x0D) + span(0x20, 0x7E) + span(0xA0, 0xFF)
)

// span is all bytes from one to another one.
func span(from, to int) string {
	var b []byte
	for c := from; c <= to; c++ {
		b = append(b, byte(c))
	}
	return string(b)
}

func has(set string, c byte) bool {
	return strings.IndexByte(set, c) >= 0
}

// some is a token of a kind that has all which the kind may have.
func some(kind int) token.Token {
	x := told[kind-1]
	t := token.Token{Kind: kind}
	if x.codes != "" {
		t.Code = 'e'
	}
	if kind == token.Ctrl {
		t.Code = 0x0A
	}
	if x.mark {
		t.Mark = '?'
	}
	if x.params {
		t.Params = []int{1, 0, 65535}
	}
	if x.inters {
		t.Inters = " /"
	}
	if x.data {
		t.Data = []byte("a\x08\x0D\xFF;")
	}
	return t
}

// bare is a token of a kind that has no more than it must.
func bare(kind int) token.Token {
	return token.Token{Kind: kind, Code: some(kind).Code}
}

// may tells by the document's table whether the form of a token of a kind is right.
func may(t token.Token) bool {
	x := told[t.Kind-1]
	switch {
	case x.codes == "" && t.Code != 0, x.codes != "" && !has(x.codes, t.Code):
		return false
	case t.Kind == token.Esc && t.Inters == "" && has(notAlone, t.Code):
		return false
	case t.Mark != 0 && !(x.mark && has(marks, t.Mark)), len(t.Params) > 0 && !x.params:
		return false
	case t.Inters != "" && !x.inters, len(t.Data) > 0 && !x.data:
		return false
	}
	return strings.Trim(t.Inters, interBytes) == "" && !slices.ContainsFunc(t.Data, func(c byte) bool { return !has(dataBytes, c) })
}

func checkForm(t *testing.T, x token.Token) {
	t.Helper()
	want := api.ErrForm
	if may(x) {
		want = api.OK
	}
	if got := token.Check(x); got != want {
		t.Errorf("P11.1: Check(%v) = %d, not %d", x, got, want)
	}
}

func TestKinds(t *testing.T) {
	got := []int{token.Print, token.Ctrl, token.Esc, token.Csi, token.Dcs, token.Osc, token.Sos, token.Pm, token.Apc}
	if !slices.Equal(got, []int{1, 2, 3, 4, 5, 6, 7, 8, 9}) {
		t.Errorf("P11.1: the kinds: %v", got)
	}
}

func TestCheckOfWhatIsRight(t *testing.T) {
	for kind := firstKind; kind <= lastKind; kind++ {
		for _, x := range []token.Token{some(kind), bare(kind)} {
			if got := token.Check(x); got != api.OK {
				t.Errorf("P11.1: Check(%v) = %d", x, got)
			}
		}
		x := bare(kind)
		x.Params, x.Data = []int{}, []byte{}
		if got := token.Check(x); got != api.OK {
			t.Errorf("P11.1: lists of none aren't none: Check(%v) = %d", x, got)
		}
	}
}

func TestCheckOfKinds(t *testing.T) {
	wrong := token.Token{Mark: 1, Params: make([]int, 99), Inters: "abcdef", Data: make([]byte, 5000)}
	for _, kind := range []int{math.MinInt, -1 << 32, -1<<32 + 4, math.MinInt32, -255, -9, -1, 0, 10, 11, 99, 256, 257, 260, math.MaxInt32, 1 << 32, 1<<32 + 4, math.MaxInt} {
		for _, x := range []token.Token{{}, {Code: 'm'}, some(token.Csi), wrong} {
			x.Kind = kind
			if got := token.Check(x); got != api.ErrArg {
				t.Errorf("P11.1: Check(%v) = %d", x, got)
			}
		}
	}
}

func TestCheckOfSizes(t *testing.T) {
	for kind := firstKind; kind <= lastKind; kind++ {
		for _, x := range tooGreat(kind) {
			if got := token.Check(x); got != api.ErrSize {
				t.Errorf("P11.1: Check of kind %d with %d Params, %q, %d Data = %d", kind, len(x.Params), x.Inters, len(x.Data), got)
			}
		}
	}
	for _, x := range []token.Token{
		{Kind: token.Esc, Code: 'c', Inters: "///"},
		{Kind: token.Csi, Code: 'm', Inters: "  /"},
		{Kind: token.Csi, Code: 'm', Params: make([]int, 30)},
		{Kind: token.Csi, Code: 'm', Params: []int{0, 65535}},
		{Kind: token.Dcs, Code: '|', Params: make([]int, 30), Inters: "$$$", Data: bytes.Repeat([]byte{'x'}, 4096)},
		{Kind: token.Osc, Data: bytes.Repeat([]byte{0xA0}, 4096)},
		{Kind: token.Apc, Data: bytes.Repeat([]byte{0x08}, 4095)},
	} {
		if got := token.Check(x); got != api.OK {
			t.Errorf("P11.1: Check of kind %d with %d Params, %q, %d Data = %d", x.Kind, len(x.Params), x.Inters, len(x.Data), got)
		}
	}
}

// tooGreat are tokens of a kind with one thing too great, whether the kind uses it or not, and whether its form is right or not.
func tooGreat(kind int) []token.Token {
	var list []token.Token
	for _, like := range []token.Token{some(kind), bare(kind), {Kind: kind}, {Kind: kind, Code: 0x80, Mark: 0x80}} {
		for _, params := range [][]int{{-1}, {65536}, {0, 1, math.MinInt}, {math.MaxInt, 1}, {1 << 32}, {1<<32 + 1, 0}, {-1 << 32}, make([]int, 31), make([]int, 500), append(make([]int, 29), 65536)} {
			x := like
			x.Params = params
			list = append(list, x)
		}
		for _, inters := range []string{"    ", "/ / /", "abcd", "\x00\x00\x00\x00", strings.Repeat("!", 5000)} {
			x := like
			x.Inters = inters
			list = append(list, x)
		}
		for _, n := range []int{4097, 4098, 8192} {
			x := like
			x.Data = bytes.Repeat([]byte{'d'}, n)
			list = append(list, x)
			x.Data = make([]byte, n)
			list = append(list, x)
		}
	}
	return list
}

func TestCheckOfCodes(t *testing.T) {
	for kind := firstKind; kind <= lastKind; kind++ {
		for c := range 256 {
			for _, x := range []token.Token{some(kind), bare(kind)} {
				x.Code = byte(c)
				checkForm(t, x)
			}
		}
	}
}

func TestCheckOfMarks(t *testing.T) {
	for kind := firstKind; kind <= lastKind; kind++ {
		for c := range 256 {
			for _, x := range []token.Token{some(kind), bare(kind)} {
				x.Mark = byte(c)
				checkForm(t, x)
			}
		}
	}
}

func TestCheckOfInters(t *testing.T) {
	for kind := firstKind; kind <= lastKind; kind++ {
		for c := range 256 {
			b := string([]byte{byte(c)})
			for _, inters := range []string{b, b + "!", "!" + b, "!" + b + "!", "!!" + b} {
				for _, x := range []token.Token{some(kind), bare(kind)} {
					x.Inters = inters
					checkForm(t, x)
				}
			}
		}
	}
}

func TestCheckOfData(t *testing.T) {
	for kind := firstKind; kind <= lastKind; kind++ {
		for c := range 256 {
			for _, data := range [][]byte{{byte(c)}, {byte(c), 'a'}, {'a', byte(c)}, append(bytes.Repeat([]byte{'a'}, 4095), byte(c))} {
				for _, x := range []token.Token{some(kind), bare(kind)} {
					x.Data = data
					checkForm(t, x)
				}
			}
		}
	}
}

// A thing that the kind doesn't use is wrong also where it would be right elsewhere.
func TestCheckOfWhatIsNotUsed(t *testing.T) {
	for kind := firstKind; kind <= lastKind; kind++ {
		for _, x := range []token.Token{{Code: 'm'}, {Mark: '?'}, {Params: []int{0}}, {Params: []int{7}}, {Inters: " "}, {Data: []byte("d")}} {
			use := bare(kind)
			if x.Code != 0 {
				use.Code = x.Code
			}
			use.Mark, use.Params, use.Inters, use.Data = x.Mark, x.Params, x.Inters, x.Data
			checkForm(t, use)
		}
	}
}

// pool are tokens that can be, all unlike one another; many part in one thing alone.
func pool() []token.Token {
	var list []token.Token
	for _, x := range told {
		for i := range len(x.codes) {
			list = append(list, token.Token{Kind: x.kind, Code: x.codes[i]})
		}
		if x.codes == "" {
			list = append(list, token.Token{Kind: x.kind})
		}
		if x.inters {
			list = append(list, sequences(x.kind)...)
		}
		if x.data {
			list = append(list, strung(x.kind)...)
		}
	}
	return slices.DeleteFunc(list, func(t token.Token) bool { return !may(t) })
}

func sequences(kind int) []token.Token {
	var list []token.Token
	lists := [][]int{{0}, {1}, {0, 0}, {1, 2}, {12}, {65535}, {0, 0, 1}, make([]int, 29), make([]int, 30), rising(30)}
	for _, inters := range []string{"", " ", "!", "$", "/", "  ", " !", "! ", "///", "$$"} {
		for _, code := range []byte("0@[PX\\]^_m~") {
			x := token.Token{Kind: kind, Code: code, Inters: inters}
			if inters != "" {
				list = append(list, x)
			}
			for _, mark := range []byte("\x00<=>?") {
				x.Mark = mark
				if x.Params = nil; mark != 0 {
					list = append(list, x)
				}
				for _, params := range lists {
					x.Params = params
					list = append(list, x)
				}
			}
		}
	}
	return list
}

func strung(kind int) []token.Token {
	var list []token.Token
	for _, data := range []string{"a", "\x0D", "ab", "ba", "m", "1;2m", "\\", "[m", "]", "\xFF", "\xA0", "\xDC", "\\\\", strings.Repeat("a", 4095), strings.Repeat("a", 4096)} {
		x := bare(kind)
		x.Data = []byte(data)
		list = append(list, x)
		if kind == token.Dcs {
			x.Params = []int{3}
			list = append(list, x)
		}
	}
	return list
}

func rising(n int) []int {
	list := make([]int, n)
	for i := range list {
		list[i] = i
	}
	return list
}

// written is, by the document's table, how a token stands in a stream.
func written(t token.Token, eight bool) string {
	var signs string
	if t.Mark != 0 {
		signs = string([]byte{t.Mark})
	}
	signs += param.Format(t.Params...) + t.Inters + string([]byte{t.Code})
	opened := "\x1B" + string([]byte{told[t.Kind-1].opener})
	var s string
	switch {
	case t.Kind <= token.Ctrl:
		return signs
	case t.Kind == token.Esc:
		s = "\x1B" + signs
	case t.Kind == token.Csi:
		s = opened + signs
	case t.Kind == token.Dcs:
		s = opened + signs + string(t.Data) + "\x1B\\"
	default:
		s = opened + string(t.Data) + "\x1B\\"
	}
	for c := 0x40; eight && c <= 0x5F; c++ {
		s = strings.ReplaceAll(s, string([]byte{0x1B, byte(c)}), string([]byte{byte(c) + 0x40}))
	}
	return s
}

func TestBytesExamples(t *testing.T) {
	for _, x := range []struct {
		t            token.Token
		seven, eight string
	}{
		{token.Token{Kind: token.Csi, Code: 0x70, Mark: 0x3F, Params: []int{6}, Inters: "$"}, "\x1B[?6$p", "\x9B?6$p"},
		{token.Token{Kind: token.Esc, Code: 0x44}, "\x1BD", "\x84"},
		{token.Token{Kind: token.Print, Code: 'a'}, "a", "a"},
		{token.Token{Kind: token.Print, Code: 0xFF}, "\xFF", "\xFF"},
		{token.Token{Kind: token.Print, Code: 0xA0}, "\xA0", "\xA0"},
		{token.Token{Kind: token.Print, Code: '['}, "[", "["},
		{token.Token{Kind: token.Ctrl, Code: 0x1A}, "\x1A", "\x1A"},
		{token.Token{Kind: token.Esc, Code: '7'}, "\x1B7", "\x1B7"},
		{token.Token{Kind: token.Esc, Code: '?'}, "\x1B?", "\x1B?"},
		{token.Token{Kind: token.Esc, Code: '@'}, "\x1B@", "\x80"},
		{token.Token{Kind: token.Esc, Code: 'Z'}, "\x1BZ", "\x9A"},
		{token.Token{Kind: token.Esc, Code: '`'}, "\x1B`", "\x1B`"},
		{token.Token{Kind: token.Esc, Code: '~'}, "\x1B~", "\x1B~"},
		{token.Token{Kind: token.Esc, Code: 'D', Inters: " "}, "\x1B D", "\x1B D"},
		{token.Token{Kind: token.Esc, Code: '[', Inters: "(%"}, "\x1B(%[", "\x1B(%["},
		{token.Token{Kind: token.Csi, Code: 'm'}, "\x1B[m", "\x9Bm"},
		{token.Token{Kind: token.Csi, Code: '[', Params: []int{0}}, "\x1B[0[", "\x9B0["},
		{token.Token{Kind: token.Csi, Code: 'm', Params: []int{1, 0, 65535}}, "\x1B[1;0;65535m", "\x9B1;0;65535m"},
		{token.Token{Kind: token.Dcs, Code: '\\', Mark: '<', Params: []int{2}, Inters: "!/ ", Data: []byte("[\\\xDC")}, "\x1BP<2!/ \\[\\\xDC\x1B\\", "\x90<2!/ \\[\\\xDC\x9C"},
		{token.Token{Kind: token.Dcs, Code: 'q'}, "\x1BPq\x1B\\", "\x90q\x9C"},
		{token.Token{Kind: token.Osc, Data: []byte("2;x")}, "\x1B]2;x\x1B\\", "\x9D2;x\x9C"},
		{token.Token{Kind: token.Sos}, "\x1BX\x1B\\", "\x98\x9C"},
		{token.Token{Kind: token.Pm, Data: []byte("\x08")}, "\x1B^\x08\x1B\\", "\x9E\x08\x9C"},
		{token.Token{Kind: token.Apc, Data: []byte("P")}, "\x1B_P\x1B\\", "\x9FP\x9C"},
	} {
		seven, e := x.t.Bytes(false)
		eight, f := x.t.Bytes(true)
		if e != api.OK || f != api.OK || string(seven) != x.seven || string(eight) != x.eight {
			t.Errorf("P11.2: Bytes of %v: %q, %d; %q, %d", x.t, seven, e, eight, f)
		}
	}
}

func TestBytesOfAll(t *testing.T) {
	list := pool()
	if len(list) < 3000 {
		t.Fatalf("too few tokens: %d", len(list))
	}
	for _, eight := range []bool{false, true} {
		seen := map[string]int{}
		for i, x := range list {
			b, e := x.Bytes(eight)
			if e != api.OK || string(b) != written(x, eight) {
				t.Fatalf("P11.2: Bytes of %v (eight: %v): %q, %d, not %q", x, eight, b, e, written(x, eight))
			}
			if j, ok := seen[string(b)]; ok && !list[j].Same(x) {
				t.Fatalf("P11.2: %v and %v are both %q", list[j], x, b)
			}
			seen[string(b)] = i
		}
	}
}

func TestBytesOfWhatCannotBe(t *testing.T) {
	var list []token.Token
	for kind := firstKind; kind <= lastKind; kind++ {
		list = append(list, tooGreat(kind)...)
		for _, x := range []token.Token{{Code: 0x18}, {Code: 0x1B}, {Code: 0x80}, {Code: 0x7F}, {Mark: '@'}, {Inters: "a"}, {Data: []byte{0x9C}}, {Data: []byte{0x1B}}, {Data: []byte{0x07}}} {
			x.Kind = kind
			list = append(list, x)
		}
	}
	for i := range len(notAlone) {
		list = append(list, token.Token{Kind: token.Esc, Code: notAlone[i]})
	}
	list = append(list, token.Token{}, token.Token{Kind: 10, Code: 'a'}, token.Token{Kind: -1})
	for _, x := range list {
		want := token.Check(x)
		for _, eight := range []bool{false, true} {
			if b, e := x.Bytes(eight); want == api.OK || e != want || b != nil {
				t.Errorf("P11.2: Bytes of %v: %q, %d, not %d", x, b, e, want)
			}
		}
	}
}

// variants are unlike one another in one thing alone, or in more; some can't be.
func variants() []token.Token {
	list := []token.Token{
		{}, {Kind: 1}, {Kind: 4}, {Kind: -4}, {Kind: 1<<32 + 4}, {Code: 'm'}, {Code: '?'}, {Mark: '?'}, {Mark: 'm'}, {Params: []int{0}}, {Params: []int{0, 0}}, {Params: []int{1, 2}}, {Params: []int{2, 1}},
		{Params: []int{-1}}, {Params: []int{math.MaxInt}}, {Params: []int{65535}}, {Params: []int{65536}}, {Params: make([]int, 40)}, {Params: make([]int, 41)},
		{Inters: " "}, {Inters: "  "}, {Inters: "m"}, {Inters: "\x00"}, {Data: []byte(" ")}, {Data: []byte("m")}, {Data: []byte{0}}, {Data: []byte{0, 0}}, {Data: []byte("ab")}, {Data: []byte("ba")},
		{Data: make([]byte, 4096)}, {Data: make([]byte, 4097)},
	}
	for kind := firstKind; kind <= lastKind; kind++ {
		list = append(list, some(kind))
	}
	more := some(token.Dcs)
	for _, change := range []func(*token.Token){
		func(t *token.Token) { t.Kind = token.Csi },
		func(t *token.Token) { t.Code = 'f' },
		func(t *token.Token) { t.Mark = 0 },
		func(t *token.Token) { t.Params = []int{1, 0} },
		func(t *token.Token) { t.Params = []int{1, 0, 65534} },
		func(t *token.Token) { t.Inters = "/ " },
		func(t *token.Token) { t.Data = t.Data[:2] },
		func(t *token.Token) { t.Data = nil },
	} {
		other := more
		change(&other)
		list = append(list, other)
	}
	return list
}

func TestSame(t *testing.T) {
	list := variants()
	for i, x := range list {
		for j, y := range variants() {
			if got := x.Same(y); got != (i == j) {
				t.Errorf("P11.3: Same of %v and %v = %v", x, y, got)
			}
		}
	}
	none, empty := token.Token{Kind: token.Dcs, Code: 'q'}, token.Token{Kind: token.Dcs, Code: 'q', Params: []int{}, Data: []byte{}}
	if !none.Same(empty) || !empty.Same(none) || !empty.Same(empty) {
		t.Errorf("P11.3: lists of none aren't none")
	}
}

func TestCopy(t *testing.T) {
	for _, x := range append(variants(), pool()...) {
		if y := x.Copy(); !y.Same(x) || !x.Same(y) {
			t.Errorf("P11.3: Copy of %v: %v", x, y)
		}
	}
}

func TestId(t *testing.T) {
	for _, x := range []struct {
		t    token.Token
		want string
	}{
		{token.Token{Kind: token.Csi, Code: 0x70, Mark: 0x3F, Params: []int{6}, Inters: "$"}, "?$p"},
		{token.Token{Kind: token.Csi, Code: 'm'}, "m"},
		{token.Token{Kind: token.Csi, Code: 'm', Params: []int{1, 2, 3}}, "m"},
		{token.Token{Kind: token.Csi, Code: 'c', Mark: '>'}, ">c"},
		{token.Token{Kind: token.Csi, Code: 'q', Inters: " "}, " q"},
		{token.Token{Kind: token.Dcs, Code: '|', Params: []int{1}, Data: []byte("17/6162")}, "|"},
		{token.Token{Kind: token.Dcs, Code: 'z', Mark: '=', Inters: "!! ", Data: []byte("ab")}, "=!! z"},
		{token.Token{Kind: token.Esc, Code: '7'}, "7"},
		{token.Token{Kind: token.Esc, Code: 'B', Inters: "(%"}, "(%B"},
		{token.Token{Kind: token.Print, Code: 'a'}, ""},
		{token.Token{Kind: token.Ctrl, Code: 0x0A}, ""},
		{token.Token{Kind: token.Osc, Data: []byte("2;x")}, ""},
		{token.Token{Kind: token.Sos, Data: []byte("x")}, ""},
		{token.Token{Kind: token.Pm}, ""},
		{token.Token{Kind: token.Apc, Data: []byte("x")}, ""},
		{token.Token{}, ""},
		// Such as can't be.
		{token.Token{Kind: 10, Code: 'a', Mark: '?', Inters: " "}, ""},
		{token.Token{Kind: 1<<32 + 4, Code: 'a'}, ""},
		{token.Token{Kind: token.Print, Code: 'a', Mark: '?', Inters: " "}, ""},
		{token.Token{Kind: token.Csi, Code: 0xE9}, "\xE9"},
		{token.Token{Kind: token.Csi, Code: 'm', Mark: 0xFF, Inters: "\xC3\xA9"}, "\xFF\xC3\xA9m"},
	} {
		if got := token.Id(x.t); got != x.want {
			t.Errorf("P11.3: Id(%v) = %q, not %q", x.t, got, x.want)
		}
	}
}

// roomy is a token whose lists have spare room behind them.
func roomy() (token.Token, []int, []byte) {
	params, data := []int{1, 2, 3, 88, 99}, []byte("abcdefgh")
	return token.Token{Kind: token.Dcs, Code: 'q', Mark: '?', Params: params[:3], Inters: "$", Data: data[:4]}, params, data
}

func TestWhatIsHandedInStays(t *testing.T) {
	x, params, data := roomy()
	for _, eight := range []bool{false, true} {
		x.Bytes(eight)
	}
	token.Check(x)
	token.Id(x)
	x.Same(x)
	x.Copy()
	if !slices.Equal(params, []int{1, 2, 3, 88, 99}) || string(data) != "abcdefgh" || len(x.Params) != 3 || len(x.Data) != 4 || x.Inters != "$" {
		t.Errorf("P11.4: %v, %q", params, data)
	}
}

func TestAnswersAreNewMemory(t *testing.T) {
	x, params, data := roomy()
	y, z := x.Copy(), x.Copy()
	first, _ := x.Bytes(false)
	second, _ := x.Bytes(false)
	for _, list := range [][]int{y.Params, params} {
		list = list[:cap(list)]
		for i := range list {
			list[i] = 7
		}
	}
	for _, list := range [][]byte{y.Data, data, first} {
		list = list[:cap(list)]
		for i := range list {
			list[i] = '!'
		}
	}
	if !slices.Equal(z.Params, []int{1, 2, 3}) || string(z.Data) != "abcd" {
		t.Errorf("P11.4: copies share memory: %v", z)
	}
	if string(second) != "\x1BP?1;2;3$qabcd\x1B\\" {
		t.Errorf("P11.4: answers of Bytes share memory: %q", second)
	}
	short := token.Token{Kind: token.Esc, Code: 'D'}
	one, _ := short.Bytes(true)
	one[0] = 0
	if two, _ := short.Bytes(true); string(two) != "\x84" {
		t.Errorf("P11.4: answers of Bytes share memory: %q", two)
	}
}
