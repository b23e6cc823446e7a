package parser_test

import (
	"bytes"
	"math/rand"
	"regexp"
	"runtime"
	"slices"
	"strconv"
	"strings"
	"testing"

	"phosphor/api"
	"phosphor/param"
	"phosphor/parser"
	"phosphor/token"
)

// What follows tells by the document's words, apart from the package, what a whole stream says: it sees all of it at once, and looks ahead.

var (
	escForm    = regexp.MustCompile(`^([ -/]*)([0-~])$`)
	signsForm  = regexp.MustCompile(`^[\[P][ -?]*[@-~]$`)
	rightForm  = regexp.MustCompile(`^[\[P]([<-?]?)([0-9;]*)([ -/]{0,3})([@-~])$`)
	stringKind = map[string]int{"]": token.Osc, "X": token.Sos, "^": token.Pm, "_": token.Apc}
)

// plain is the stream without 00 and 7F, and with two bytes for each of 80 to 9F.
func plain(stream []byte) []byte {
	var b []byte
	for _, c := range stream {
		switch {
		case c >= 0x80 && c <= 0x9F:
			b = append(b, 0x1B, c-0x40)
		case c != 0 && c != 0x7F:
			b = append(b, c)
		}
	}
	return b
}

// reading is what has been found of a plain stream.
type reading struct {
	s      []byte
	tokens []token.Token
	begun  int // where that began which hasn't ended; -1, if all has
}

func read(stream []byte) reading {
	r := reading{s: plain(stream), begun: -1}
	for i := 0; i >= 0 && i < len(r.s); {
		c := r.s[i]
		switch {
		case c == 0x1B:
			i = r.sequence(i)
			continue
		case c >= 0x20:
			r.add(token.Token{Kind: token.Print, Code: c})
		case c != 0x18:
			r.add(token.Token{Kind: token.Ctrl, Code: c})
		}
		i++
	}
	return r
}

func (r *reading) add(t token.Token) {
	r.tokens = append(r.tokens, t)
}

// sequence reads on from a 1B, and tells from where on it goes on outside; -1, if that is nowhere.
func (r *reading) sequence(start int) int {
	signs := ""
	for i := start + 1; i < len(r.s); i++ {
		c := r.s[i]
		switch {
		case c == 0x18:
			return i + 1
		case c == 0x1A:
			r.add(token.Token{Kind: token.Ctrl, Code: c})
			return i + 1
		case c == 0x1B:
			return i
		case c < 0x20:
			r.add(token.Token{Kind: token.Ctrl, Code: c})
			continue
		case c == 0xFF:
			continue
		case c >= 0xA0:
			c -= 0x80
		}
		signs += string(rune(c))
		if kind := stringKind[signs]; kind != 0 {
			return r.text(start, i+1, token.Token{Kind: kind})
		}
		if t, whole := judge(signs); whole {
			if strings.HasPrefix(signs, "P") {
				return r.text(start, i+1, t)
			}
			if t.Kind != 0 {
				r.add(t)
			}
			return i + 1
		}
	}
	r.begun = start
	return -1
}

// judge tells which token the bytes behind a 1B are (one of no kind, if they are nothing), and whether they are whole.
func judge(signs string) (token.Token, bool) {
	if signs == "\\" {
		return token.Token{}, true
	}
	if signs[0] != '[' && signs[0] != 'P' {
		m := escForm.FindStringSubmatch(signs)
		if m == nil || len(m[1]) > 3 {
			return token.Token{}, m != nil
		}
		return token.Token{Kind: token.Esc, Inters: m[1], Code: m[2][0]}, true
	}
	m := rightForm.FindStringSubmatch(signs)
	if m == nil {
		return token.Token{}, signsForm.MatchString(signs)
	}
	t := token.Token{Kind: token.Csi, Inters: m[3], Code: m[4][0]}
	if signs[0] == 'P' {
		t.Kind = token.Dcs
	}
	if m[1] != "" {
		t.Mark = m[1][0]
	}
	t.Params, _ = param.Parse(m[2])
	return t, true
}

// text reads a string's Data; t is what it is, but for them.
func (r *reading) text(start, from int, t token.Token) int {
	for i := from; i < len(r.s); i++ {
		c := r.s[i]
		switch {
		case c == 0x18:
			return i + 1
		case c == 0x1A:
			r.add(token.Token{Kind: token.Ctrl, Code: c})
			return i + 1
		case c == 0x07 && t.Kind == token.Osc:
			r.addText(t)
			return i + 1
		case c == 0x1B && i+1 == len(r.s):
		case c == 0x1B && (r.s[i+1] == 0x5C || r.s[i+1] == 0xDC):
			r.addText(t)
			return i + 2
		case c == 0x1B:
			return i
		case c >= 0x20 || c >= 0x08 && c <= 0x0D:
			t.Data = append(t.Data, c)
		}
	}
	r.begun = start
	return -1
}

func (r *reading) addText(t token.Token) {
	if t.Kind != 0 && len(t.Data) <= 4096 {
		r.add(t)
	}
}

func alike(a, b []token.Token) bool {
	return slices.EqualFunc(a, b, token.Token.Same)
}

// tell is a list of tokens to be read in a test's report.
func tell(list []token.Token) string {
	var parts []string
	for _, t := range list {
		data := strconv.Quote(string(t.Data))
		if len(data) > 60 {
			data = data[:60] + ".. of " + strconv.Itoa(len(t.Data))
		}
		parts = append(parts, "{"+strconv.Itoa(t.Kind)+" "+strconv.Quote(token.Id(t))+" "+strconv.Itoa(int(t.Code))+" "+param.Format(t.Params...)+" "+data+"}")
	}
	return strings.Join(parts, " ")
}

func checkSplit(t *testing.T, stream string) {
	t.Helper()
	want := read([]byte(stream)).tokens
	if got := parser.Split([]byte(stream)); !alike(got, want) {
		t.Fatalf("P12.1: Split(%.200q) = %s, not %s", stream, tell(got), tell(want))
	}
}

func printed(s string) []token.Token {
	var list []token.Token
	for i := range len(s) {
		list = append(list, token.Token{Kind: token.Print, Code: s[i]})
	}
	return list
}

func ctrl(c byte) token.Token {
	return token.Token{Kind: token.Ctrl, Code: c}
}

func esc(inters string, code byte) token.Token {
	return token.Token{Kind: token.Esc, Inters: inters, Code: code}
}

func csi(code byte, params ...int) token.Token {
	return token.Token{Kind: token.Csi, Code: code, Params: params}
}

func dcs(data string, code byte, params ...int) token.Token {
	return token.Token{Kind: token.Dcs, Code: code, Params: params, Data: []byte(data)}
}

func text(kind int, data string) token.Token {
	return token.Token{Kind: kind, Data: []byte(data)}
}

var list4096 = strings.Repeat("0123456789ABCDEF", 256)

// samples are streams, and what the document says of them.
func samples() []struct {
	stream string
	want   []token.Token
} {
	p := printed
	cat := func(lists ...[]token.Token) []token.Token { return slices.Concat(lists...) }
	one := func(t ...token.Token) []token.Token { return t }
	return []struct {
		stream string
		want   []token.Token
	}{
		{"", nil},
		// The examples.
		{"a\x1B[1;\x0A2m", cat(p("a"), one(ctrl(0x0A), csi('m', 1, 2)))},
		{"\x9B3\x18m", p("m")},
		{"\x1B]x\x1B[m", one(csi('m'))},
		{"\x1B[1:2m", nil},
		// Outside.
		{"a\x00b\x7Fc ~\xA0\xFF", p("abc ~\xA0\xFF")},
		{"\x01\x18\x1A\x1C\x1F", one(ctrl(1), ctrl(0x1A), ctrl(0x1C), ctrl(0x1F))},
		{"a\x18b", p("ab")},
		{"\x84\x9C\x80\x9A", one(esc("", 'D'), esc("", '@'), esc("", 'Z'))},
		// In a sequence.
		{"\x1B\x0A[\x0B?\x0C6\x0D$\x0Ep", one(ctrl(10), ctrl(11), ctrl(12), ctrl(13), ctrl(14), token.Token{Kind: token.Csi, Mark: '?', Params: []int{6}, Inters: "$", Code: 'p'})},
		{"\x1B[1\x1Am", cat(one(ctrl(0x1A)), p("m"))},
		{"\x1B\x18c\x1B\x1Ac", cat(p("c"), one(ctrl(0x1A)), p("c"))},
		{"\x1B[3\x1B[4m", one(csi('m', 4))},
		{"\x1B\x1B\x1Bc", one(esc("", 'c'))},
		{"\x1B\xDB\xB3\xED", one(csi('m', 3))},
		{"\x1B\xFF[\xFF3\xFFm\xFF", cat(one(csi('m', 3)), p("\xFF"))},
		{"\x1B\x00[\x7F3\x00m", one(csi('m', 3))},
		{"\x1B[\x84", one(esc("", 'D'))},
		{"\x1B\x9Bm", one(csi('m'))},
		{"\x1B\xA8\xC2", one(esc("(", 'B'))},
		// Behind 1B.
		{"\x1B(B\x1B%%5\x1B !/0", one(esc("(", 'B'), esc("%%", '5'), esc(" !/", '0'))},
		{"\x1B !/ 0a", p("a")},
		{"\x1B\\a\x9Ca\x1B\xDCa", p("aaa")},
		{"\x1B [\x1B P\x1B ]\x1B X\x1B ^\x1B _\x1B \\", one(esc(" ", '['), esc(" ", 'P'), esc(" ", ']'), esc(" ", 'X'), esc(" ", '^'), esc(" ", '_'), esc(" ", '\\'))},
		{"\x1B    Pa\x1B    ]a", p("aa")},
		{"\x1B0\x1B?\x1B~\x1BQ", one(esc("", '0'), esc("", '?'), esc("", '~'), esc("", 'Q'))},
		// Of a Csi.
		{"\x1B[m\x1B[0m\x1B[;m\x1B[007;70000~", one(csi('m'), csi('m', 0), csi('m', 0, 0), csi('~', 7, 65535))},
		{"\x1B[?h\x1B[\x0A?h", one(token.Token{Kind: token.Csi, Mark: '?', Code: 'h'}, ctrl(10), token.Token{Kind: token.Csi, Mark: '?', Code: 'h'})},
		{"\x1B[1?h\x1B[;?h\x1B[ ?h\x1B[??h\x1B[<1=h", nil},
		{"\x1B[:h\x1B[?:h\x1B[1 2h\x1B[ ;h\x1B[ :h\x1B[1 <ha", p("a")},
		{"\x1B[    m\x1B[1    ma", p("a")},
		{"\x1B[1 !/m", one(token.Token{Kind: token.Csi, Params: []int{1}, Inters: " !/", Code: 'm'})},
		{"\x1B[" + strings.Repeat("1;", 40) + "5m", one(csi('m', slices.Repeat([]int{1}, 30)...))},
		{"\x1B[[\x1B[]\x1B[P\x1B[@", one(csi('['), csi(']'), csi('P'), csi('@'))},
		// Of strings.
		{"\x1BP1;2qab\x1B\\c", cat(one(dcs("ab", 'q', 1, 2)), p("c"))},
		{"\x90?1!zab\x9Cc", cat(one(token.Token{Kind: token.Dcs, Mark: '?', Params: []int{1}, Inters: "!", Code: 'z', Data: []byte("ab")}), p("c"))},
		{"\x1BP1:2qab\x1B\\c\x1BP    qab\x1B\\c\x1BP 1qab\x9Cc", p("ccc")},
		{"\x1BP1\x0Aq\x0Ax\x1B\\", one(ctrl(10), dcs("\x0Ax", 'q', 1))},
		{"\x1BP\x18q\x1BP1\x1Aq", cat(p("q"), one(ctrl(0x1A)), p("q"))},
		{"\x1BPq\x1B\\\x1B]\x1B\\\x1BX\x1B\\\x1B^\x1B\\\x1B_\x1B\\", one(dcs("", 'q'), text(token.Osc, ""), text(token.Sos, ""), text(token.Pm, ""), text(token.Apc, ""))},
		{"\x1BXa\x1B\xDC\x1B^b\x9C\x9Fc\x1B\\", one(text(token.Sos, "a"), text(token.Pm, "b"), text(token.Apc, "c"))},
		{"\x1B]0;x\x07y", cat(one(text(token.Osc, "0;x")), p("y"))},
		{"\x1BPqa\x07b\x1B\\\x1BXa\x07b\x1B\\\x1B^a\x07b\x1B\\\x1B_a\x07b\x1B\\", one(dcs("ab", 'q'), text(token.Sos, "ab"), text(token.Pm, "ab"), text(token.Apc, "ab"))},
		{"\x1B]\x01\x06\x08\x0D\x0E\x17\x19\x1C\x1F \x00~\x7F\xA0\xFF\x1B\\", one(text(token.Osc, "\x08\x0D ~\xA0\xFF"))},
		{"\x1B]ab\x18c\x1B]ab\x1Ac", cat(p("c"), one(ctrl(0x1A)), p("c"))},
		{"\x1B]ab\x1B\x18c\x1B]ab\x1B\x1Ac", cat(p("c"), one(ctrl(0x1A)), p("c"))},
		{"\x1B]ab\x1B\x00\\c", cat(one(text(token.Osc, "ab")), p("c"))},
		{"\x1B]ab\x1B\x1B\\c", p("c")},
		{"\x1B]ab\x1B\xFF\\c", p("c")},
		{"\x1B]ab\x1B\x07c", one(ctrl(7), esc("", 'c'))},
		{"\x1B]ab\x1B\x0A[m", one(ctrl(10), csi('m'))},
		{"\x1B]ab\x1B]c\x1B\\", one(text(token.Osc, "c"))},
		{"\x1B]ab\x84c", cat(one(esc("", 'D')), p("c"))},
		{"\x1B]ab\x9Bm\x1B]ab\x9Dc\x9C", one(csi('m'), text(token.Osc, "c"))},
		{"\x1B]" + list4096 + "\x1B\\a", cat(one(text(token.Osc, list4096)), p("a"))},
		{"\x1B]" + list4096 + "\x01\x1B\\a", cat(one(text(token.Osc, list4096)), p("a"))},
		{"\x1B]" + list4096 + "x\x1B\\a", p("a")},
		{"\x1B]" + list4096 + list4096 + "x\x07a", p("a")},
		{"\x1BP1q" + list4096 + "\x9Ca", cat(one(dcs(list4096, 'q', 1)), p("a"))},
		{"\x1BP1q" + list4096 + "\x08\x9Ca", p("a")},
		{"\x1B]" + list4096 + "x\x1B[m", one(csi('m'))},
		{"\x1B]" + list4096 + "x\x1AX", cat(one(ctrl(0x1A)), p("X"))},
		{"\x1B]" + list4096 + "x\x1B]y\x9C", one(text(token.Osc, "y"))},
		// What hasn't ended.
		{"\x1B", nil}, {"\x1B[", nil}, {"\x1B[1;2", nil}, {"\x1B(", nil}, {"a\x1BP1qab", p("a")}, {"\x1B]ab\x1B", nil},
	}
}

func TestSplitSamples(t *testing.T) {
	for _, x := range samples() {
		if got := parser.Split([]byte(x.stream)); !alike(got, x.want) {
			t.Errorf("P12.1: Split(%.200q) = %s, not %s", x.stream, tell(got), tell(x.want))
		}
		if got := read([]byte(x.stream)).tokens; !alike(got, x.want) {
			t.Errorf("the tests read %.200q as %s", x.stream, tell(got))
		}
	}
}

// ahead are beginnings that stand a parser in each of its places, void and not.
var ahead = []string{"", "\x1B", "\x1B ", "\x1B !/", "\x1B    ", "\x1B[", "\x1B[?", "\x1B[1", "\x1B[1;", "\x1B[ ", "\x1B[ !/", "\x1B[    ", "\x1B[:", "\x1B[1 2", "\x1BP", "\x1BP?", "\x1BP1", "\x1BP ", "\x1BP:", "\x1BP1q", "\x1BP1qab", "\x1BP:q", "\x1BP:qab", "\x1BP1qab\x1B", "\x1BP:qab\x1B", "\x1B]", "\x1B]ab", "\x1B]ab\x1B", "\x1BXab", "\x1BXab\x1B", "\x1B^ab", "\x1B_ab", "\x1B_ab\x1B"}

// behind are ends that show where a parser stood.
var behind = []string{"", "m", "\\", "\x1B\\", "\x9C", "\x07", "1m", ";m", "?m", " m", " 1m", "q\x1B\\", "[m", "]x\x07", "\x18m", "\x1Am", "\xDC", "\x1B\xDC", "ab\x1B\\m"}

func TestSplitEveryByteEverywhere(t *testing.T) {
	for _, begin := range ahead {
		for c := range 256 {
			for _, end := range behind {
				checkSplit(t, begin+string([]byte{byte(c)})+end)
			}
		}
	}
}

func TestSplitEveryByteByAnother(t *testing.T) {
	for _, begin := range ahead {
		for c := range 256 {
			for i := range len(kindsOfBytes) {
				b, other := string([]byte{byte(c)}), kindsOfBytes[i:i+1]
				checkSplit(t, begin+b+other+"m\x1B\\")
				checkSplit(t, begin+other+b+"m\x1B\\")
			}
		}
	}
}

// kindsOfBytes has of each kind one that the grammar knows.
const kindsOfBytes = "\x1B[P]X\\?:;1 m\x07\x0A\x18\x1A\x9B\x9C\xDC\xFF\x00"

func TestSplitShortStreams(t *testing.T) {
	list := []string{""}
	for done, length := 0, 0; length < 4; length++ {
		end := len(list)
		for _, s := range list[done:end] {
			for i := range len(kindsOfBytes) {
				list = append(list, s+kindsOfBytes[i:i+1])
			}
		}
		done = end
	}
	for _, s := range list {
		checkSplit(t, s)
		if len(s) < 4 {
			for _, begin := range ahead {
				checkSplit(t, begin+s)
				checkSplit(t, begin+s+"m")
			}
		}
	}
}

// someStream is one by chance, of all bytes or of those that mean something.
func someStream(rnd *rand.Rand, length int) []byte {
	s := make([]byte, rnd.Intn(length+1))
	for i := range s {
		switch rnd.Intn(8) {
		case 0:
			s[i] = byte(rnd.Intn(256))
		case 1:
			s[i] = 0x1B
		default:
			s[i] = kindsOfBytes[rnd.Intn(len(kindsOfBytes))]
		}
	}
	return s
}

// longStreams are about the bounds of what may be kept.
func longStreams() []string {
	var list []string
	for _, begin := range []string{"\x1B]", "\x1BP1q", "\x1BP:q", "\x9E"} {
		for _, n := range []int{4094, 4095, 4096, 4097, 4098, 9000} {
			for _, end := range []string{"\x1B\\", "\x9C", "\x07", "\x1B\xDC", "\x18", "\x1A", "\x1B[m", "\x1B", "\x00\x7F\x01\x1B\\"} {
				list = append(list, begin+strings.Repeat("d", n)+end+"m", begin+strings.Repeat("\xA0\x09\x02", n/2)+end+"m")
			}
		}
	}
	for _, begin := range []string{"\x1B[", "\x1BP", "\x1B[?", "\x9B1"} {
		for _, middle := range []string{"1", "0", ";", "9;", "!", "\xB1\xFF"} {
			for _, n := range []int{2, 3, 4, 29, 30, 31, 400} {
				list = append(list, begin+strings.Repeat(middle, n)+"m", begin+strings.Repeat(middle, n)+";7 m\x1B\\x")
			}
		}
	}
	for n := range 6 {
		list = append(list, "\x1B"+strings.Repeat("#", n)+"8x", "\x1B"+strings.Repeat("#", n)+"]x\x07", "\x1B["+strings.Repeat("$", n)+"py", "\x1BP$"+strings.Repeat("$", n)+"py\x9Cz")
	}
	return list
}

func TestSplitLongStreams(t *testing.T) {
	rnd := rand.New(rand.NewSource(121))
	for range 50000 {
		checkSplit(t, string(someStream(rnd, 60)))
	}
	for range 200 {
		checkSplit(t, string(someStream(rnd, 5000)))
	}
	for _, s := range longStreams() {
		checkSplit(t, s)
	}
}

// streams are some to be cut.
func streams() []string {
	var list []string
	for _, x := range samples() {
		list = append(list, x.stream)
	}
	for _, begin := range ahead {
		for _, end := range behind {
			list = append(list, begin+end)
		}
	}
	rnd := rand.New(rand.NewSource(122))
	for range 2000 {
		list = append(list, string(someStream(rnd, 40)))
	}
	return list
}

func TestByteByByte(t *testing.T) {
	for _, s := range append(streams(), longStreams()[:60]...) {
		var p parser.Parser
		var got []token.Token
		for i := range len(s) {
			got = append(got, p.Feed([]byte(s[i:i+1]))...)
			if len(s) > 300 && i%97 != 0 && i < len(s)-10 { // the tests' reading of a long stream is slow
				continue
			}
			want := read([]byte(s[:i+1]))
			if !alike(got, want.tokens) {
				t.Fatalf("P12.2: behind %.200q: %s, not %s", s[:i+1], tell(got), tell(want.tokens))
			}
			if p.Idle() != (want.begun < 0) {
				t.Fatalf("P12.2: Idle behind %.200q = %v", s[:i+1], p.Idle())
			}
		}
	}
}

func TestEveryCut(t *testing.T) {
	for _, s := range streams() {
		want := parser.Split([]byte(s))
		whole := fed(s)
		for i := 0; i <= len(s); i += 1 + len(s)/300 {
			var p parser.Parser
			got := append(p.Feed([]byte(s[:i])), p.Feed([]byte(s[i:]))...)
			if !alike(got, want) {
				t.Fatalf("P12.2: %.200q and %.200q: %s, not %s", s[:i], s[i:], tell(got), tell(want))
			}
			if !p.Same(whole) || !whole.Same(&p) || p.Idle() != whole.Idle() {
				t.Fatalf("P12.2: behind %.200q and %.200q it isn't the Same", s[:i], s[i:])
			}
		}
	}
}

func TestManyCuts(t *testing.T) {
	rnd := rand.New(rand.NewSource(123))
	for _, s := range append(streams(), longStreams()...) {
		want, whole := parser.Split([]byte(s)), fed(s)
		for range 3 {
			var p parser.Parser
			var got []token.Token
			for rest := s; rest != ""; {
				n := rnd.Intn(min(len(rest), 1+len(s)/4) + 1)
				got = append(got, p.Feed([]byte(rest[:n]))...)
				rest = rest[n:]
			}
			if !alike(got, want) || !p.Same(whole) || !whole.Same(&p) {
				t.Fatalf("P12.2: %.200q in pieces: %s, not %s", s, tell(got), tell(want))
			}
		}
	}
}

func TestFeedOfNothing(t *testing.T) {
	for _, s := range append(ahead, behind...) {
		p := fed(s)
		for _, none := range [][]byte{nil, {}, {0}, {0x7F}, {0, 0x7F, 0}} {
			if got := p.Feed(none); len(got) != 0 || !p.Same(fed(s)) {
				t.Errorf("P12.2: Feed of %q behind %q: %s", none, s, tell(got))
			}
		}
	}
}

// fed is a parser that has had a stream.
func fed(s string) *parser.Parser {
	var p parser.Parser
	p.Feed([]byte(s))
	return &p
}

// state is all that may tell of a parser that has had a stream: what has begun.
func state(s string) string {
	r := read([]byte(s))
	if r.begun < 0 {
		return ""
	}
	return string(r.s[r.begun:])
}

// further are bytes by which parsers may part.
var further = []string{"m", "\\", "\x1B\\", "\x07", "1m", ";m", "?m", " m", "!!m", "!!!m", "q\x1B\\", "1q\x1B\\", "?q\x1B\\", "!!q\x1B\\", "!!!q\x1B\\", "[m", "x\x1B\\", strings.Repeat("x", 4095) + "\x1B\\", strings.Repeat("x", 4096) + "\x1B\\"}

func part(begun, other string) bool {
	for _, end := range further {
		a, b := read([]byte(begun+end)), read([]byte(other+end))
		if !alike(a.tokens[len(read([]byte(begun)).tokens):], b.tokens[len(read([]byte(other)).tokens):]) {
			return true
		}
	}
	return false
}

func TestSame(t *testing.T) {
	list := append(slices.Clone(ahead), "a", "m\x1B[m", "x\x1B", "\x1B[m\x1B", "\x1B]x\x1B[", "\x1B[1\x18", "\x1B[1\x1B[", "\x1B[1\x0A", "\x9B", "\x9D", "\x9D\x1B", "\x1B]x\x1B]", "\x1B[2", "\x1B[12", "\x1B[?1", "\x1B[>1", "\x1B[;", "\x1B[0", "\x1B[65535", "\x1B[99999", "\x1B[!", "\x1B[!!",
		"\x1B!", "\x1B]ba", "\x1B]a", "\x1BP1qabc", "\x1BP2qab", "\x1BP1rab", "\x1BP?1qab", "\x1BP1!qab", "\x1B]"+list4096, "\x1B]"+list4096+"x", "\x1B]"+list4096+"xy", "\x1B]"+list4096+"xy\x1B", "\x1BX"+list4096+"xy",
		"\x1B["+strings.Repeat("1;", 29), "\x1B["+strings.Repeat("1;", 30), "\x1B["+strings.Repeat("1;", 31))
	apart, same := 0, 0
	for _, s := range list {
		for _, u := range list {
			got := fed(s).Same(fed(u))
			if state(s) == state(u) {
				same++
				if !got {
					t.Errorf("P12.2: behind %.200q it isn't the Same as behind %.200q", s, u)
				}
			} else if part(s, u) {
				apart++
				if got {
					t.Errorf("P12.2: behind %.200q it is the Same as behind %.200q", s, u)
				}
			}
		}
	}
	if apart < 2000 || same < 100 {
		t.Errorf("too few: %d part, %d don't", apart, same)
	}
}

// What was ahead of that which has begun doesn't tell.
func TestSameWhateverWasAhead(t *testing.T) {
	for _, was := range append(slices.Clone(ahead), "a", "\x1B[5m", "\x1BP5q"+list4096+"\x9C", "\x1B]"+list4096+"xyz", "\x1B[9;9\x18", "\x1B]abcdef\x1B", "\x1B]abcdef\x1Bc") {
		for _, s := range ahead {
			if s == "" {
				continue
			}
			p, want := fed(was), fed(s)
			p.Feed([]byte("\x18" + s))
			if !p.Same(want) || !want.Same(p) {
				t.Errorf("P12.2: %.200q ahead of 18 and %q tells", was, s)
			}
			if state(was+s) != s {
				continue
			}
			if q := fed(was + s); !q.Same(want) || !want.Same(q) {
				t.Errorf("P12.2: %.200q ahead of %q tells", was, s)
			}
		}
	}
}

func TestIdle(t *testing.T) {
	if !new(parser.Parser).Idle() {
		t.Errorf("P12.2: the zero Parser isn't Idle")
	}
	for _, s := range streams() {
		if got := fed(s).Idle(); got != (state(s) == "") {
			t.Errorf("P12.2: Idle behind %.200q = %v", s, got)
		}
		if p := fed(s); p.Idle() && (!p.Same(new(parser.Parser)) || !new(parser.Parser).Same(p)) {
			t.Errorf("P12.2: Idle behind %.200q isn't the Same as the zero one", s)
		}
	}
}

func TestReset(t *testing.T) {
	for _, s := range append(streams(), "\x1B]"+list4096+"xyz") {
		p := fed(s)
		p.Reset()
		if !p.Idle() || !p.Same(new(parser.Parser)) {
			t.Fatalf("P12.2: Reset behind %.200q isn't the beginning", s)
		}
		for _, end := range ahead {
			q := p.Clone()
			if got := q.Feed([]byte(end + "ab\x1B\\")); !alike(got, read([]byte(end+"ab\x1B\\")).tokens) {
				t.Fatalf("P12.2: behind %.200q and Reset %q is %s", s, end, tell(got))
			}
		}
	}
}

func TestClone(t *testing.T) {
	for _, s := range append(slices.Clone(ahead), "\x1B]"+list4096, "\x1BP1q"+list4096+"x") {
		p := fed(s)
		q := p.Clone()
		if p == q || !q.Same(p) || !p.Same(q) || q.Idle() != p.Idle() {
			t.Fatalf("P12.2: Clone behind %.200q isn't the Same", s)
		}
		for _, end := range behind {
			one, two := p.Clone(), p.Clone()
			one.Feed([]byte("xyz;77"))
			got := two.Feed([]byte(end))
			all := read([]byte(s + end)).tokens
			if want := all[len(read([]byte(s)).tokens):]; !alike(got, want) {
				t.Fatalf("P12.2: Clone behind %.200q and %q: %s, not %s", s, end, tell(got), tell(want))
			}
			if !p.Same(q) || !p.Same(fed(s)) {
				t.Fatalf("P12.5: what its Clone has shows behind %.200q and %q", s, end)
			}
		}
		p.Feed([]byte("zzz\x1B[m"))
		p.Reset()
		if !q.Same(fed(s)) {
			t.Fatalf("P12.5: what is done with it shows in its Clone behind %.200q", s)
		}
	}
}

// right are tokens that can be, of each kind many.
func right() []token.Token {
	var list []token.Token
	for kind := token.Print; kind <= token.Apc; kind++ {
		for c := range 256 {
			for _, inters := range []string{"", " ", "$", "!/ "} {
				for _, mark := range []byte("\x00?<") {
					for _, params := range [][]int{nil, {0}, {0, 0}, {1, 0, 65535}, make([]int, 30), {7}} {
						list = append(list, token.Token{Kind: kind, Code: byte(c), Mark: mark, Params: params, Inters: inters})
						if kind == token.Dcs && c%5 == 0 {
							list = append(list, token.Token{Kind: kind, Code: byte(c), Mark: mark, Params: params, Inters: inters, Data: []byte("1;2\\[\xDC")})
						}
					}
				}
			}
		}
		for _, data := range []string{"a", "\x08\x0D", " ~\xA0\xFF", "[m", "\\", "\xDC\xDC", list4096[1:], list4096} {
			list = append(list, token.Token{Kind: kind, Data: []byte(data)}, token.Token{Kind: kind, Code: 'q', Data: []byte(data)})
		}
	}
	return slices.DeleteFunc(list, func(t token.Token) bool { return token.Check(t) != api.OK })
}

func TestBytesOfTokens(t *testing.T) {
	list := right()
	if len(list) < 10000 {
		t.Fatalf("too few tokens: %d", len(list))
	}
	for _, eight := range []bool{false, true} {
		var stream []byte
		for _, x := range list {
			b, e := x.Bytes(eight)
			if got := parser.Split(b); e != api.OK || !alike(got, []token.Token{x}) {
				t.Fatalf("P12.3: %s stands as %.200q, which is %s", tell([]token.Token{x}), b, tell(got))
			}
			if p := fed(string(b)); !p.Idle() {
				t.Fatalf("P12.3: %.200q doesn't end", b)
			}
			if got := parser.Split(b[:len(b)-1]); len(got) != 0 {
				t.Fatalf("P12.3: %.200q is there too early: %s", b, tell(got))
			}
			stream = append(stream, b...)
		}
		if !alike(parser.Split(stream), list) {
			t.Errorf("P12.3: tokens behind one another (eight: %v) aren't those that they were", eight)
		}
	}
}

func TestSevenAndEightBits(t *testing.T) {
	rnd := rand.New(rand.NewSource(124))
	list := right()
	for range 300 {
		var stream []byte
		var want []token.Token
		for range 50 {
			x := list[rnd.Intn(len(list))]
			b, _ := x.Bytes(rnd.Intn(2) == 0)
			stream, want = append(stream, b...), append(want, x)
		}
		if got := parser.Split(stream); !alike(got, want) {
			t.Fatalf("P12.3: %s is read as %s", tell(want), tell(got))
		}
	}
}

func TestEveryTokenCanBe(t *testing.T) {
	rnd := rand.New(rand.NewSource(125))
	all := append(streams(), longStreams()...)
	for range 300 {
		s := make([]byte, 3000)
		rnd.Read(s)
		all = append(all, string(s), string(someStream(rnd, 3000)))
	}
	seen := map[int]int{}
	for _, s := range all {
		for _, x := range parser.Split([]byte(s)) {
			seen[x.Kind]++
			if e := token.Check(x); e != api.OK {
				t.Fatalf("P12.4: Split of %.200q has %s: Check tells %d", s, tell([]token.Token{x}), e)
			}
		}
	}
	for kind := token.Print; kind <= token.Apc; kind++ {
		if seen[kind] < 100 {
			t.Errorf("too few of kind %d: %d", kind, seen[kind])
		}
	}
}

func heap() int64 {
	var m runtime.MemStats
	runtime.GC()
	runtime.ReadMemStats(&m)
	return int64(m.HeapAlloc)
}

func TestWhatIsKeptIsBounded(t *testing.T) {
	for _, x := range []struct{ begin, middle string }{
		{"\x1B", "!"}, {"\x1B[", "1"}, {"\x1B[", ";"}, {"\x1B[", "12;"}, {"\x1B[", "!"}, {"\x1B[", ":"}, {"\x1B[?", "?"}, {"\x1BP", "12;"}, {"\x1BP", "!"}, {"\x1BP1q", "d"}, {"\x1BP:q", "d"},
		{"\x1B]", "d"}, {"\x9D", "\xA0\x09"}, {"\x1BX", "d"}, {"\x1B^", "d\x01"}, {"\x1B_", "\x02"}, {"\x1B]", "dd\x1B]"}, {"", "\x1B[1"}, {"", "\x90"},
	} {
		chunk := bytes.Repeat([]byte(x.middle), 100000)
		var p parser.Parser
		p.Feed([]byte(x.begin))
		before := heap()
		for range 20 {
			if got := p.Feed(chunk); len(got) != 0 {
				t.Fatalf("P12.4: %q and %q again and again: %s", x.begin, x.middle, tell(got[:1]))
			}
		}
		if more := heap() - before; more > 100000 {
			t.Errorf("P12.4: behind %q and %q again and again %d bytes more are kept", x.begin, x.middle, more)
		}
		if p.Idle() {
			t.Errorf("P12.4: %q and %q again and again end", x.begin, x.middle)
		}
		p.Feed([]byte("\x18"))
		if got := p.Feed([]byte("a\x1B[1;2m")); !p.Idle() || !alike(got, []token.Token{printed("a")[0], csi('m', 1, 2)}) {
			t.Errorf("P12.4: behind %q and %q again and again, and 18: %s", x.begin, x.middle, tell(got))
		}
	}
}

func TestChunksStayAsTheyWere(t *testing.T) {
	for _, s := range streams() {
		room := append([]byte(s), "spare room"...)
		chunk := room[:len(s)]
		first := parser.Split(chunk)
		var p parser.Parser
		second := p.Feed(chunk)
		if string(room) != s+"spare room" {
			t.Fatalf("P12.5: a chunk is changed: %.200q", room)
		}
		for i := range room {
			room[i] = '!'
		}
		want := read([]byte(s)).tokens
		if !alike(first, want) || !alike(second, want) || !p.Same(fed(s)) {
			t.Fatalf("P12.5: a chunk is kept: %.200q", s)
		}
	}
}

// spoil writes over all that a list of tokens has, and over its spare room.
func spoil(list []token.Token) {
	for _, x := range list {
		params, data := x.Params[:cap(x.Params)], x.Data[:cap(x.Data)]
		for i := range params {
			params[i] = 99
		}
		for i := range data {
			data[i] = '!'
		}
	}
	clear(list[:cap(list)])
}

func TestAnswersAreNewMemory(t *testing.T) {
	begin, end := "\x1B[1;2m\x1BP3;4qabc\x1B\\\x1B]def\x1B\\\x1BP5;6qgh", "i\x1B\\\x1BP7;8qjk\x1B\\\x1B[9;10m"
	want := []token.Token{csi('m', 1, 2), dcs("abc", 'q', 3, 4), text(token.Osc, "def"), dcs("ghi", 'q', 5, 6), dcs("jk", 'q', 7, 8), csi('m', 9, 10)}
	var p parser.Parser
	first := p.Feed([]byte(begin))
	q := p.Clone()
	kept := []token.Token{first[0].Copy(), first[1].Copy(), first[2].Copy()}
	spoil(first)
	if !p.Same(fed(begin)) {
		t.Errorf("P12.5: what is done with an answer shows in the parser")
	}
	second := p.Feed([]byte(end))
	if !alike(append(kept, second...), want) {
		t.Errorf("P12.5: what is done with an answer shows in another one: %s", tell(second))
	}
	spoil(second)
	if third := q.Feed([]byte(end)); !alike(third, want[3:]) {
		t.Errorf("P12.5: what is done with an answer shows in a clone's: %s", tell(third))
	}
	for i := range want {
		list := parser.Split([]byte(begin + end))
		spoil(list[i : i+1 : i+1])
		list[i] = want[i]
		if !alike(list, want) {
			t.Errorf("P12.5: two tokens of an answer share memory: %s", tell(list))
		}
	}
}

// A later token doesn't show in an earlier one.
func TestTokensStayAsTheyWere(t *testing.T) {
	var p parser.Parser
	first := p.Feed([]byte("\x1BP1;2qabc\x1B\\\x1B[3;4m\x1B]de\x07"))
	p.Feed([]byte("\x1BP8;9;9rxyzxyz\x1B\\\x1B[9;9;9m\x1B]zzzz\x07\x1B]yyy"))
	p.Reset()
	if !alike(first, []token.Token{dcs("abc", 'q', 1, 2), csi('m', 3, 4), text(token.Osc, "de")}) {
		t.Errorf("P12.5: a later token shows in an earlier one: %s", tell(first))
	}
}

// What a token's kind doesn't use is none.
func TestWhatIsNotUsedIsNone(t *testing.T) {
	var p parser.Parser
	p.Feed([]byte("\x1BP?1;2$qabc\x1B"))
	for _, x := range p.Feed([]byte("\\a\x0A\x1B(B\x1B[m\x1B]\x07\x1BX\x1B\\\x1BPq\x1B\\"))[1:] {
		if x.Mark != 0 || len(x.Params) != 0 || len(x.Data) != 0 || x.Kind != token.Esc && x.Inters != "" {
			t.Errorf("P12.1: left of an earlier token: %v", x)
		}
	}
}
