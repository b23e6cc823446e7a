package reply_test

import (
	"bytes"
	"math"
	"slices"
	"strconv"
	"strings"
	"testing"

	"phosphor/api"
	"phosphor/parser"
	"phosphor/reply"
	"phosphor/token"
)

var bothWays = []bool{false, true}

// span is all bytes from one to another one.
func span(from, to int) string {
	var b []byte
	for c := from; c <= to; c++ {
		b = append(b, byte(c))
	}
	return string(b)
}

var (
	markBytes  = span(0x3C, 0x3F)
	interBytes = span(0x20, 0x2F)
	codeBytes  = span(0x40, 0x7E)
	dataBytes  = span(0x08, 0x0D) + span(0x20, 0x7E) + span(0xA0, 0xFF)
)

// allOf tells whether a text has bytes of a set alone.
func allOf(s, set string) bool {
	for i := range len(s) {
		if strings.IndexByte(set, s[i]) < 0 {
			return false
		}
	}
	return true
}

// parts are the Mark (as a text), the Inters and the Code of an id; false: there is none such.
func parts(id string) (mark, inters, code string, ok bool) {
	if id != "" && allOf(id[:1], markBytes) {
		mark, id = id[:1], id[1:]
	}
	if id == "" {
		return "", "", "", false
	}
	inters, code = id[:len(id)-1], id[len(id)-1:]
	return mark, inters, code, len(inters) <= 3 && allOf(inters, interBytes) && allOf(code, codeBytes)
}

// kept are the numbers as they are told: between 0 and 65535, thirty at most.
func kept(params []int) []int {
	var list []int
	for _, n := range params {
		if len(list) < 30 {
			list = append(list, max(0, min(n, 65535)))
		}
	}
	return list
}

func decimal(list []int) string {
	var texts []string
	for _, n := range list {
		texts = append(texts, strconv.Itoa(n))
	}
	return strings.Join(texts, ";")
}

// lead is an escape and a byte, of seven or of eight bits.
func lead(eight bool, c byte) string {
	if eight {
		return string([]byte{c + 0x40})
	}
	return string([]byte{0x1B, c})
}

// csi is what the document has Csi answer.
func csi(eight bool, id string, params ...int) string {
	mark, inters, code, ok := parts(id)
	if !ok {
		return ""
	}
	return lead(eight, 0x5B) + mark + decimal(kept(params)) + inters + code
}

// dcs is what the document has Dcs answer.
func dcs(eight bool, id, data string, params ...int) string {
	mark, inters, code, ok := parts(id)
	if !ok || len(data) > 4096 || !allOf(data, dataBytes) {
		return ""
	}
	return lead(eight, 0x50) + mark + decimal(kept(params)) + inters + code + data + lead(eight, 0x5C)
}

// same holds an answer against what is asked for; where that is nothing, the answer is to be nil.
func same(t *testing.T, promise, call string, got []byte, want string) {
	t.Helper()
	if string(got) != want || want == "" && got != nil {
		t.Errorf("%s: %s = %q, not %q", promise, call, got, want)
	}
}

// readBack holds the one token that a parser reads against that which was written.
func readBack(t *testing.T, b []byte, kind int, id, data string, params []int) {
	t.Helper()
	mark, inters, code, _ := parts(id)
	want := token.Token{Kind: kind, Code: code[0], Inters: inters, Params: kept(params), Data: []byte(data)}
	if mark != "" {
		want.Mark = mark[0]
	}
	tokens := parser.Split(b)
	if len(tokens) != 1 || !tokens[0].Same(want) || token.Id(tokens[0]) != id {
		t.Errorf("P18.1: of %q a parser reads %v, not %v", b, tokens, want)
	}
}

// checkSequences holds Csi and Dcs of an id against the document.
func checkSequences(t *testing.T, id, data string, params ...int) {
	t.Helper()
	for _, eight := range bothWays {
		want := csi(eight, id, params...)
		got := reply.Csi(eight, id, params...)
		same(t, "P18.1", "Csi of "+strconv.Quote(id), got, want)
		if want != "" {
			readBack(t, got, token.Csi, id, "", params)
		}
		want = dcs(eight, id, data, params...)
		got = reply.Dcs(eight, id, data, params...)
		same(t, "P18.1", "Dcs of "+strconv.Quote(id), got, want)
		if want != "" {
			readBack(t, got, token.Dcs, id, data, params)
		}
	}
}

func TestIdsOfUpToTwoBytes(t *testing.T) {
	checkSequences(t, "", "", 1)
	checkSequences(t, "", "data")
	for first := range 256 {
		one := string([]byte{byte(first)})
		checkSequences(t, one, "x", 7, 1)
		checkSequences(t, one, "")
		for second := range 256 {
			checkSequences(t, one+string([]byte{byte(second)}), "")
		}
	}
}

func TestIdsOfManyBytes(t *testing.T) {
	some := []string{"\x1F", " ", "$", "/", "0", "9", ":", ";", "<", "?", "@", "p", "~", "\x7F", "\xA4", "\xF0"}
	ids := []string{""}
	for range 4 {
		var longer []string
		for _, id := range ids {
			for _, c := range some {
				longer = append(longer, id+c)
			}
		}
		for _, id := range longer {
			checkSequences(t, id, "d", 3)
		}
		ids = longer
	}
	for _, id := range []string{
		" /$q", "? /$q", "    q", "?    q", "> /$!q", "\"p", "<$~", "=!!!z", "=!!!!z", "?$?y", "$?y", "??y", "m ", "?m$", "[?6$p", "?6$p", "6p", ";p", "1;1R", "pp", "?yy", "é", "\u0440",
		strings.Repeat("$", 5000) + "p", strings.Repeat("p", 5000), "\x1B[m", "\x9Bm", "\x00m", "m\x00",
	} {
		checkSequences(t, id, "some data", 1, 0, 65535)
	}
}

func TestIdExamples(t *testing.T) {
	for _, x := range []struct {
		id, want string
	}{
		{"?$y", "\x1B[?7;1$y"}, {"m", "\x1B[7;1m"}, {"\"p", "\x1B[7;1\"p"}, {">c", "\x1B[>7;1c"}, {" !/~", "\x1B[7;1 !/~"}, {"= !/@", "\x1B[=7;1 !/@"},
		{"", ""}, {"?", ""}, {"<", ""}, {"$", ""}, {"0", ""}, {"?0", ""}, {"?$", ""}, {"    q", ""}, {"$?y", ""}, {"\x7F", ""}, {"\xF0", ""},
	} {
		same(t, "P18.1", "Csi of "+strconv.Quote(x.id), reply.Csi(false, x.id, 7, 1), x.want)
	}
}

// lists are some lists of numbers.
func lists() [][]int {
	all := [][]int{
		nil, {}, {0}, {1}, {0, 0}, {65535}, {65536}, {-1}, {math.MinInt, math.MaxInt}, {1 << 32, -1 << 32, 1<<32 + 5, 1<<16 + 5}, {9, 10, 99, 100, 65534, 65535, 65536},
	}
	for _, n := range []int{2, 29, 30, 31, 32, 500} {
		list := make([]int, n)
		for i := range list {
			list[i] = i * 150
		}
		all = append(all, list, make([]int, n))
	}
	late := make([]int, 40)
	late[30], late[35] = -7, math.MaxInt
	return append(all, late)
}

func TestNumbers(t *testing.T) {
	for _, list := range lists() {
		for _, id := range []string{"m", "?$y", "!~", ">c", "   ~", "", "?", "$$$$y"} {
			was := slices.Clone(list)
			checkSequences(t, id, "0123;56", list...)
			if !slices.Equal(list, was) {
				t.Errorf("P18.1: the numbers that were handed in are %v", list)
			}
		}
	}
	for _, x := range []struct {
		params []int
		want   string
	}{{nil, "\x1B[m"}, {[]int{0}, "\x1B[0m"}, {[]int{1, -5, 70000}, "\x1B[1;0;65535m"}, {make([]int, 31), "\x1B[" + strings.Repeat("0;", 29) + "0m"}} {
		same(t, "P18.1", "Csi of m", reply.Csi(false, "m", x.params...), x.want)
	}
}

func TestData(t *testing.T) {
	for c := range 256 {
		one := string([]byte{byte(c)})
		for _, data := range []string{one, "a" + one, one + "b", one + one, "12" + one + "34"} {
			checkSequences(t, "$q", data, 1)
		}
	}
	for _, data := range []string{
		"", "0", ";", "1;2", "m", "q$", strings.Repeat("x", 4095), strings.Repeat("\xFF", 4096), strings.Repeat("x", 4097), strings.Repeat("x", 70000), strings.Repeat("\x08", 4096),
		strings.Repeat("x", 4096) + "\x1B", dataBytes, "\u00e9", "\x1B\\", "\x9C", "a\x1B\\b", "\x18", "\x1A", "\x07", "\x00", "\x7F", "\x80",
	} {
		for _, id := range []string{"|", "!|", "<$q", "", "?"} {
			checkSequences(t, id, data, 0, 1)
			checkSequences(t, id, data)
		}
	}
	for _, x := range []struct{ data, want string }{{"", "\x1BP1$r\x1B\\"}, {"m", "\x1BP1$rm\x1B\\"}, {"0m", "\x1BP1$r0m\x1B\\"}, {"\x1B", ""}} {
		same(t, "P18.1", "Dcs of "+strconv.Quote(x.data), reply.Dcs(false, "$r", x.data, 1), x.want)
	}
	same(t, "P18.1", "Dcs of eight bits", reply.Dcs(true, "$r", "0m", 1), "\x901$r0m\x9C")
}

func TestSingle(t *testing.T) {
	for c := range 256 {
		for _, eight := range bothWays {
			b := reply.Single(eight, byte(c))
			same(t, "P18.1", "Single", b, lead(eight, 0x4F)+string([]byte{byte(c)}))
			if !strings.Contains(span(0x20, 0x7E)+span(0xA0, 0xFF), string([]byte{byte(c)})) {
				continue
			}
			tokens := parser.Split(b)
			if len(tokens) != 2 || !tokens[0].Same(token.Token{Kind: token.Esc, Code: 'O'}) || !tokens[1].Same(token.Token{Kind: token.Print, Code: byte(c)}) {
				t.Errorf("P18.1: of %q a parser reads %v", b, tokens)
			}
		}
	}
	same(t, "P18.1", "Single of A", reply.Single(false, 'A'), "\x1BOA")
	same(t, "P18.1", "Single of A", reply.Single(true, 'A'), "\x8FA")
}

// far are numbers beyond all that may be told.
var far = []int{math.MinInt, math.MinInt + 1, math.MinInt32, -1 << 32, -1<<32 + 5, -1<<16 + 3, -65536, -65535, 65534, 65535, 65536, 65537, 1 << 17, math.MaxInt32, 1 << 32, 1<<32 + 3, math.MaxInt - 1, math.MaxInt}

func TestFirst(t *testing.T) {
	attributes := [6]string{1: "1;2", 2: "62;1;2;7;8;9", 3: "63;1;2;7;8;9;18;21", 4: "64;1;2;7;8;9;18;21;28;29", 5: "65;1;2;7;8;9;18;21;28;29;42;44"}
	levels := append([]int{-256, -255, -5, -1, 0, 1, 2, 3, 4, 5, 6, 7, 9, 61, 65, 255, 256, 257, 260}, far...)
	for _, level := range levels {
		want := attributes[max(1, min(level, 5))]
		for _, eight := range bothWays {
			same(t, "P18.2", "First of "+strconv.Itoa(level), reply.First(eight, level), lead(eight, 0x5B)+"?"+want+"c")
		}
	}
}

func TestSecondAndThird(t *testing.T) {
	same(t, "P18.2", "Second", reply.Second(false), "\x1B[>64;1;0c")
	same(t, "P18.2", "Second", reply.Second(true), "\x9B>64;1;0c")
	same(t, "P18.2", "Third", reply.Third(false), "\x1BP!|00000000\x1B\\")
	same(t, "P18.2", "Third", reply.Third(true), "\x90!|00000000\x9C")
}

// fromOne is a number that is handed in from 0 on, as it is told: from 1 on, and no sum that goes round.
func fromOne(n int) int {
	if n >= 65535 {
		return 65535
	}
	return max(0, n+1)
}

func TestPlace(t *testing.T) {
	list := append([]int{-3, -2, -1, 0, 1, 2, 15, 16, 23, 79, 499, 500}, far...)
	for _, row := range list {
		for _, col := range list {
			for _, page := range list {
				params, mark := []int{fromOne(row), fromOne(col)}, ""
				if page >= 0 {
					params, mark = append(params, fromOne(page)), "?"
				}
				for _, eight := range bothWays {
					got := reply.Place(eight, row, col, page)
					if want := lead(eight, 0x5B) + mark + decimal(params) + "R"; string(got) != want {
						t.Errorf("P18.2: Place(%v, %d, %d, %d) = %q, not %q", eight, row, col, page, got, want)
					}
				}
			}
		}
	}
}

func TestMode(t *testing.T) {
	list := append([]int{-1, 0, 1, 2, 3, 4, 7, 20, 69, 95, 256}, far...)
	for _, n := range list {
		for _, value := range list {
			for _, eight := range bothWays {
				same(t, "P18.2", "Mode of an ANSI number", reply.Mode(eight, false, n, value), csi(eight, "$y", n, value))
				same(t, "P18.2", "Mode of DEC's number", reply.Mode(eight, true, n, value), csi(eight, "?$y", n, value))
			}
		}
	}
	same(t, "P18.2", "Mode", reply.Mode(false, false, 4, 2), "\x1B[4;2$y")
	same(t, "P18.2", "Mode", reply.Mode(true, true, 69, 0), "\x9B?69;0$y")
}

// fourDigits are a number's lowest sixteen bits.
func fourDigits(n int) string {
	digits := strings.ToUpper(strconv.FormatInt(int64(n&0xFFFF), 16))
	return strings.Repeat("0", 4-len(digits)) + digits
}

func TestSum(t *testing.T) {
	sums := append([]int{-2, -1, -255, -256, -257, 65792, 1 << 16, 0xABCDEF, -0xABCDEF}, far...)
	for sum := range 1 << 16 {
		sums = append(sums, sum)
	}
	for _, sum := range sums {
		for _, eight := range bothWays {
			same(t, "P18.2", "Sum of "+strconv.Itoa(sum), reply.Sum(eight, 3, sum), lead(eight, 0x50)+"3!~"+fourDigits(sum)+lead(eight, 0x5C))
		}
	}
	for _, id := range append([]int{-1, 0, 1, 30, 500}, far...) {
		for _, eight := range bothWays {
			same(t, "P18.2", "Sum of the id "+strconv.Itoa(id), reply.Sum(eight, id, 0xFACE), dcs(eight, "!~", "FACE", id))
		}
	}
	same(t, "P18.2", "Sum", reply.Sum(false, 0, -1), "\x1BP0!~FFFF\x1B\\")
	same(t, "P18.2", "Sum", reply.Sum(true, 7, 0x1FF3D), "\x907!~FF3D\x9C")
}

const great = "0123456789ABCDEF"

func TestHex(t *testing.T) {
	whole := span(0, 255)
	var want []byte
	for c := range 256 {
		want = append(want, great[c/16], great[c%16])
		if got := reply.Hex(string([]byte{byte(c)})); got != string(want[2*c:]) {
			t.Errorf("P18.3: Hex(%02X) = %q", c, got)
		}
	}
	for _, x := range []struct{ s, want string }{
		{"", ""}, {whole, string(want)}, {"A", "41"}, {"AB\x0A", "41420A"}, {"\x00", "00"}, {"\xFF\x00", "FF00"}, {"é", "C3A9"}, {"\xC3", "C3"}, {"41", "3431"},
		{strings.Repeat("\x0F", 5000), strings.Repeat("0F", 5000)},
	} {
		if got := reply.Hex(x.s); got != x.want {
			t.Errorf("P18.3: Hex(%q) = %q, not %q", x.s, got, x.want)
		}
		for _, digits := range []string{x.want, strings.ToLower(x.want)} {
			if s, e := reply.FromHex(digits); s != x.s || e != api.OK {
				t.Errorf("P18.3: FromHex(%q) = %q, %d", digits, s, e)
			}
		}
	}
}

// digit is what a byte is as a hexadecimal one.
func digit(c byte) (int, bool) {
	n := strings.IndexByte("0123456789abcdef", c)
	if n < 0 {
		n = strings.IndexByte(great, c)
	}
	return n, n >= 0
}

func TestFromHexOfTwoBytes(t *testing.T) {
	for first := range 256 {
		for second := range 256 {
			pair := string([]byte{byte(first), byte(second)})
			high, ok := digit(byte(first))
			low, both := digit(byte(second))
			want, errno := "", api.ErrForm
			if ok && both {
				want, errno = string([]byte{byte(16*high + low)}), api.OK
			}
			if s, e := reply.FromHex(pair); s != want || e != errno {
				t.Errorf("P18.3: FromHex(%q) = %q, %d, not %q, %d", pair, s, e, want, errno)
			}
			if errno == api.OK {
				continue
			}
			for _, around := range []string{"41" + pair, pair + "41", "4142" + pair + "43", pair + pair, "4" + pair + "1"} {
				if s, e := reply.FromHex(around); s != "" || e != api.ErrForm {
					t.Errorf("P18.3: FromHex(%q) = %q, %d", around, s, e)
				}
			}
		}
	}
}

func TestFromHexOfOddCounts(t *testing.T) {
	for c := range 256 {
		one := string([]byte{byte(c)})
		for _, digits := range []string{one, "41" + one, one + "41", "414243" + one} {
			if s, e := reply.FromHex(digits); s != "" || e != api.ErrForm {
				t.Errorf("P18.3: FromHex(%q) = %q, %d", digits, s, e)
			}
		}
	}
	for _, digits := range []string{"4 1", " 41", "41 ", "0x4", "0x41", "+41", "-1", "+1", "4_1", "_1", "1_", "4g", "G4", "4:", "4@", "4/", "4`", "é", "\u0664\u0661", "41\n", strings.Repeat("41", 5000) + "4", strings.Repeat("41", 5000) + "4x"} {
		if s, e := reply.FromHex(digits); s != "" || e != api.ErrForm {
			t.Errorf("P18.3: FromHex(%q) = %q, %d", digits, s, e)
		}
	}
	if s, e := reply.FromHex("aBFf0009"); s != "\xAB\xFF\x00\x09" || e != api.OK {
		t.Errorf("P18.3: FromHex = %q, %d", s, e)
	}
}

func TestHexUndoesFromHex(t *testing.T) {
	for n := range 1 << 16 {
		digits := fourDigits(n)
		s, e := reply.FromHex(digits)
		if e != api.OK || reply.Hex(s) != digits {
			t.Errorf("P18.3: Hex of FromHex(%q) = %q, %d", digits, reply.Hex(s), e)
		}
	}
}

func TestAnswersAreNewMemory(t *testing.T) {
	calls := []func() []byte{
		func() []byte { return reply.Csi(false, "?$y", 7, 1) },
		func() []byte { return reply.Dcs(true, "$r", "0m", 1) },
		func() []byte { return reply.Single(false, 'A') },
		func() []byte { return reply.Single(true, 'A') },
		func() []byte { return reply.First(false, 5) },
		func() []byte { return reply.Second(true) },
		func() []byte { return reply.Third(false) },
		func() []byte { return reply.Place(false, 1, 2, 3) },
		func() []byte { return reply.Mode(true, true, 6, 2) },
		func() []byte { return reply.Sum(false, 3, 255) },
	}
	for i, call := range calls {
		one := call()
		was, other := bytes.Clone(one), call()
		clear(one[:cap(one)])
		if third := call(); !bytes.Equal(other, was) || !bytes.Equal(third, was) {
			t.Errorf("rule 5: call %d: %q and %q, not %q", i, other, third, was)
		}
	}
}

func TestExamples(t *testing.T) {
	same(t, "P18.1", "Csi", reply.Csi(false, "?$y", 7, 1), "\x1B[?7;1$y")
	same(t, "P18.2", "Place", reply.Place(true, 0, 0, -1), "\x9B1;1R")
	same(t, "P18.2", "Place", reply.Place(false, 1, 3, -1), "\x1B[2;4R")
	same(t, "P18.2", "Place", reply.Place(false, 1, 3, 0), "\x1B[?2;4;1R")
	same(t, "P18.2", "Sum", reply.Sum(false, 3, 255), "\x1BP3!~00FF\x1B\\")
}
