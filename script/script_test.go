package script_test

import (
	"bytes"
	"fmt"
	"math"
	"math/rand"
	"reflect"
	"regexp"
	"slices"
	"strconv"
	"strings"
	"testing"

	"phosphor/api"
	"phosphor/keys"
	"phosphor/script"
)

// What follows tells by the document's words, apart from the package, which line is which item's.

const (
	someNumber = `(0|[1-9][0-9]{0,5})`
	someByte   = `[ !#-\[\]-~]|\\["\\]|\\x(?:[01][0-9a-f]|7f|[89a-f][0-9a-f])`
)

var (
	hostLine = regexp.MustCompile(`^` + someNumber + ` host "((?:` + someByte + `)*)"$`)
	keyLine  = regexp.MustCompile(`^` + someNumber + ` key ` + someNumber + ` ` + someNumber + `( shift)?( ctrl)?$`)
	sizeLine = regexp.MustCompile(`^` + someNumber + ` size ` + someNumber + ` ` + someNumber + `$`)
	oneByte  = regexp.MustCompile(someByte)
)

func number(s string) int {
	n, _ := strconv.Atoi(s)
	return n
}

// meant is the byte that is quoted so.
func meant(quoted string) byte {
	switch len(quoted) {
	case 1:
		return quoted[0]
	case 2:
		return quoted[1]
	}
	n, _ := strconv.ParseUint(quoted[2:], 16, 8)
	return byte(n)
}

// parsed is what Parse is to answer.
func parsed(s string) (script.Item, api.Errno) {
	if len(s) > 20000 {
		return script.Item{}, api.ErrSize
	}
	if m := hostLine.FindStringSubmatch(s); m != nil {
		i := script.Item{At: number(m[1])}
		for _, q := range oneByte.FindAllString(m[2], -1) {
			i.Data = append(i.Data, meant(q))
		}
		if len(i.Data) <= 4096 {
			return i, api.OK
		}
	}
	if m := keyLine.FindStringSubmatch(s); m != nil && number(m[3]) <= 255 {
		return script.Item{At: number(m[1]), Kind: 1, Key: keys.Event{Kind: number(m[2]), Code: byte(number(m[3])), Shift: m[4] != "", Ctrl: m[5] != ""}}, api.OK
	}
	if m := sizeLine.FindStringSubmatch(s); m != nil {
		return script.Item{At: number(m[1]), Kind: 2, Rows: number(m[2]), Cols: number(m[3])}, api.OK
	}
	return script.Item{}, api.ErrForm
}

// used is an item without what its kind doesn't use.
func used(i script.Item) script.Item {
	switch i.Kind {
	case 0:
		return script.Item{At: i.At, Data: append([]byte(nil), i.Data...)}
	case 1:
		return script.Item{At: i.At, Kind: 1, Key: i.Key}
	}
	return script.Item{At: i.At, Kind: 2, Rows: i.Rows, Cols: i.Cols}
}

// printed is what Print is to answer.
func printed(i script.Item) (string, api.Errno) {
	numbers := [][]int{{i.At}, {i.At, i.Key.Kind}, {i.At, i.Rows, i.Cols}}
	if i.Kind < 0 || i.Kind >= len(numbers) || slices.Min(numbers[i.Kind]) < 0 || slices.Max(numbers[i.Kind]) > 999999 {
		return "", api.ErrArg
	}
	switch {
	case i.Kind == 0 && len(i.Data) > 4096:
		return "", api.ErrSize
	case i.Kind == 0:
		s := ""
		for _, b := range i.Data {
			q := fmt.Sprintf(`\x%02x`, b)
			if b == '"' || b == '\\' {
				q = `\` + string(rune(b))
			} else if b >= 0x20 && b < 0x7F {
				q = string(rune(b))
			}
			s += q
		}
		return fmt.Sprintf(`%d host "%s"`, i.At, s), api.OK
	case i.Kind == 1:
		s := fmt.Sprintf("%d key %d %d", i.At, i.Key.Kind, i.Key.Code)
		if i.Key.Shift {
			s += " shift"
		}
		if i.Key.Ctrl {
			s += " ctrl"
		}
		return s, api.OK
	}
	return fmt.Sprintf("%d size %d %d", i.At, i.Rows, i.Cols), api.OK
}

// short is a text, as it is shown in a test's report.
func short(s string) string {
	if len(s) > 120 {
		return fmt.Sprintf("%q .. (%d bytes)", s[:120], len(s))
	}
	return strconv.Quote(s)
}

// checkPrint holds Print against the model, and has Parse undo it.
func checkPrint(t *testing.T, i script.Item) {
	t.Helper()
	want, errno := printed(i)
	got, e := script.Print(i)
	if got != want || e != errno {
		t.Fatalf("P25.1: Print(%s) = %s, %d, not %s, %d", short(fmt.Sprint(i)), short(got), e, short(want), errno)
	}
	if e != api.OK {
		return
	}
	if back, e := script.Parse(got); e != api.OK || !reflect.DeepEqual(back, used(i)) {
		t.Fatalf("P25.1: Parse(%s) = %s, %d, and not what was printed", short(got), short(fmt.Sprint(back)), e)
	}
}

// checkParse holds Parse against the model, and has Print undo it.
func checkParse(t *testing.T, s string) {
	t.Helper()
	want, errno := parsed(s)
	got, e := script.Parse(s)
	if !reflect.DeepEqual(got, want) || e != errno {
		t.Fatalf("P25.1: Parse(%s) = %s, %d, not %s, %d", short(s), short(fmt.Sprint(got)), e, short(fmt.Sprint(want)), errno)
	}
	if e != api.OK {
		return
	}
	if back, e := script.Print(got); e != api.OK || back != s {
		t.Fatalf("P25.1: Print of what %s is = %s, %d", short(s), short(back), e)
	}
}

func TestExamples(t *testing.T) {
	for _, c := range []struct {
		i script.Item
		s string
	}{
		{script.Item{At: 5, Kind: script.Host, Data: []byte("a\x1B")}, `5 host "a\x1b"`},
		{script.Item{Kind: script.Key, Key: keys.Event{Kind: 16, Code: 6, Shift: true}}, "0 key 16 6 shift"},
		{script.Item{At: 1, Kind: script.Size, Rows: 24, Cols: 80}, "1 size 24 80"},
	} {
		if s, e := script.Print(c.i); s != c.s || e != api.OK {
			t.Errorf("P25.1: Print(%v) = %q, %d", c.i, s, e)
		}
		if i, e := script.Parse(c.s); !reflect.DeepEqual(i, c.i) || e != api.OK {
			t.Errorf("P25.1: Parse(%q) = %v, %d", c.s, i, e)
		}
	}
	if i, e := script.Parse("1 size 24 080"); !reflect.DeepEqual(i, script.Item{}) || e != api.ErrForm {
		t.Errorf("P25.1: a leading nought: %v, %d", i, e)
	}
	if script.Host != 0 || script.Key != 1 || script.Size != 2 {
		t.Errorf("the kinds are %d, %d, %d", script.Host, script.Key, script.Size)
	}
}

// TestBytes has each byte quoted by itself and behind another one.
func TestBytes(t *testing.T) {
	var all []byte
	for b := range 256 {
		checkPrint(t, script.Item{Data: []byte{byte(b)}})
		checkPrint(t, script.Item{Data: []byte{'\\', byte(b), '"'}})
		all = append(all, byte(b))
		for _, form := range []string{`0 host "%c"`, `0 host "\%c"`, `0 host "%c`, `0 host %c"`, `0 host "\x%c0"`, `0 host "\x1%c"`, `0 host "\x%c"`, `0 host ""%c`, `0 host%c""`, `0%chost ""`, `0 host %c`, `%c`, `%c host ""`} {
			checkParse(t, strings.Replace(form, "%c", string([]byte{byte(b)}), 1))
		}
		for _, form := range []string{`0 host "\x%02x"`, `0 host "\x%02X"`, `0 host "\x%x"`, `0 host "\x%03x"`, `0 host "\u00%02x"`, `0 host "\%03o"`, `0 host "\%o"`, `0 host "\X%02x"`} {
			checkParse(t, fmt.Sprintf(form, b))
		}
	}
	checkPrint(t, script.Item{At: 999999, Data: all})
}

// TestNumbers has each number that an item uses, and each that it doesn't use, at its bounds and far beyond.
func TestNumbers(t *testing.T) {
	for _, n := range []int{0, 1, 9, 10, 99, 100, 255, 256, 257, 65535, 99999, 100000, 999999, 1000000, -1, -5, math.MinInt, math.MinInt32, -1 << 32, 1 << 31, 1 << 32, 1<<32 + 7, math.MaxInt} {
		for kind := range 3 {
			checkPrint(t, script.Item{Kind: kind, At: n})
			checkPrint(t, script.Item{Kind: kind, At: 7, Key: keys.Event{Kind: n, Code: 8, Ctrl: true}})
			checkPrint(t, script.Item{Kind: kind, At: 7, Rows: n, Cols: 3, Data: []byte("x")})
			checkPrint(t, script.Item{Kind: kind, At: 7, Rows: 3, Cols: n, Data: []byte("x")})
		}
		checkPrint(t, script.Item{Kind: n})
		checkPrint(t, script.Item{Kind: n, At: -1, Data: make([]byte, 5000)})
		for _, zeros := range []string{"", "0", "00", "+", "-", " ", "1_", "0x", "9999999999999999999"} {
			for _, form := range []string{`%s host "x"`, "%s key 1 2", "1 key %s 2 shift", "1 key 2 %s ctrl", "%s size 1 1", "1 size %s 1", "1 size 1 %s"} {
				checkParse(t, fmt.Sprintf(form, zeros+strconv.Itoa(n)))
			}
		}
	}
	for code := range 600 {
		checkParse(t, fmt.Sprintf("1 key 0 %d", code))
		for held := range 4 {
			checkPrint(t, script.Item{Kind: 1, Key: keys.Event{Kind: code, Code: byte(code), Shift: held&1 > 0, Ctrl: held&2 > 0}})
		}
	}
}

// TestSizes has texts about the greatest lengths: 4096 bytes quoted, 20000 of a line.
func TestSizes(t *testing.T) {
	for _, n := range []int{0, 1, 4095, 4096, 4097, 8192, 20000} {
		for _, b := range []byte{'a', '"', 0, 0xFF} {
			data := bytes.Repeat([]byte{b}, n)
			checkPrint(t, script.Item{At: 999999, Data: data})
			checkPrint(t, script.Item{At: 1000000, Data: data})
			checkPrint(t, script.Item{Kind: 1, Data: data})
			checkPrint(t, script.Item{Kind: 2, Data: data})
			line, _ := printed(script.Item{})
			quoted := strings.Repeat(oneQuoted(b), n)
			checkParse(t, strings.Replace(line, `""`, `"`+quoted+`"`, 1))
		}
	}
	for _, n := range []int{19999, 20000, 20001, 40000} {
		for _, ahead := range []string{"", "0 host ", `0 host "`, "#", "0 key 1 2", "0"} {
			checkParse(t, ahead+strings.Repeat(" ", n-len(ahead)))
			checkParse(t, ahead+strings.Repeat("0", n-len(ahead)))
			checkParse(t, ahead+strings.Repeat("0", n-len(ahead)-1)+`"`)
			checkParse(t, strings.Repeat("1", n-len(ahead))+ahead)
		}
	}
}

func oneQuoted(b byte) string {
	s, _ := printed(script.Item{Data: []byte{b}})
	return s[len(`0 host "`) : len(s)-1]
}

func TestWrongLines(t *testing.T) {
	for _, s := range []string{
		"", " ", "0", "0 ", "host", `host "a"`, ` 0 host "a"`, `0 host "a" `, `0  host "a"`, `0 host  "a"`, "0\thost \"a\"", "0 host", "0 host ", "0 host a", `0 host "a`, `0 host a"`, `0 host "`,
		`0 host "a""`, `0 host "a" "b"`, `0 host "a"b`, `0 host "\"`, `0 host "\\\"`, `0 host "\a"`, `0 host "\n"`, `0 host "\0"`, `0 host "\033"`, `0 host "\x1B"`, `0 host "\x41"`, `0 host "\x22"`, `0 host "\x5c"`,
		`0 host "\x7e"`, `0 host "\x7F"`, `0 host "\x"`, `0 host "\x1"`, `0 host "\xg1"`, `0 host "\x1g"`, `0 host "\X1b"`, `0 host "\u001b"`, `0 host "\U0000001b"`, "0 host `a`", "0 host 'a'", `0 host "a b" c`,
		"0 host \"\x1B\"", "0 host \"\x7F\"", "0 host \"\x80\"", "0 host \"é\"", "0 host \"a\nb\"", "0 host \"a\x00\"", `0 Host "a"`, `0 HOST "a"`, `0 hosts "a"`, `0 hos "a"`,
		"0 key", "0 key ", "0 key 1", "0 key 1 ", "0 key 1 2 ", "0 key 1 2 shift ", "0 key 1 2  shift", "0 key 1 2 ctrl shift", "0 key 1 2 shift shift", "0 key 1 2 ctrl ctrl", "0 key 1 2 shift ctrl ctrl",
		"0 key 1 2 shiftctrl", "0 key 1 2 shif", "0 key 1 2 shiftx", "0 key 1 2 xctrl", "0 key 1 2 Shift", "0 key 1 2 3", "0 key shift", "0 key 1 shift", "0 key 1 256", "0 key 1 999999", "0 key 1 -1", "0 key -1 1",
		"0 key 1000000 1", "0 key 01 1", "0 key 1 01", "0 key 1 +1", "0 key 1 1.0", "0 key 1 1e1", "0 key 1 0x1", "0 key 1 1_0", "0 key 1 ٣", "0 key 1 2 shift ctrl x",
		"0 size", "0 size 1", "0 size 1 ", "0 size 1 2 ", "0 size 1 2 3", "0 size  1 2", "0 size 1  2", "0 size 1 1000000", "0 size 1000000 1", "0 size -1 1", "0 size 1 -0", "0 size 1 00", "00 size 1 1", "1000000 size 1 1",
		"-1 size 1 1", "+1 size 1 1", "x size 1 1", "size 1 1", "0 sizes 1 1", "0 other 1 1", "0 0 1 1", "# a comment", "#", "0 size 1 1\r", "0 size 1 1\n", "\n0 size 1 1", "0 size 1 1\x00",
	} {
		if i, e := script.Parse(s); !reflect.DeepEqual(i, script.Item{}) || e != api.ErrForm {
			t.Errorf("P25.1: Parse(%q) = %v, %d", s, i, e)
		}
		checkParse(t, s)
	}
}

// someItem is an item of some kind, now and then of wrong numbers.
func someItem(r *rand.Rand) script.Item {
	numbers := []int{0, 1, 2, 16, 24, 80, 132, 500, 999999, r.Intn(1000000), r.Intn(300)}
	if r.Intn(8) == 0 {
		numbers = append(numbers, -1, 1000000)
	}
	some := func() int { return numbers[r.Intn(len(numbers))] }
	i := script.Item{At: some(), Kind: r.Intn(3), Rows: some(), Cols: some()}
	i.Key = keys.Event{Kind: some(), Code: byte(r.Intn(256)), Shift: r.Intn(2) > 0, Ctrl: r.Intn(2) > 0}
	i.Data = make([]byte, r.Intn(12))
	r.Read(i.Data)
	for n := range i.Data {
		if r.Intn(2) > 0 {
			i.Data[n] = ` "\x0aA~#`[r.Intn(9)]
		}
	}
	return i
}

// spoilt is a text with a few changes.
func spoilt(r *rand.Rand, s string) string {
	pieces := []string{" ", `"`, `\`, "x", "0", "1", "9", "host", "key", "size", "shift", "ctrl", " shift", " ctrl", "a", "A", "\x1B", "\n", "#", "-", `\x1b`, `\\`, `\"`}
	for range 1 + r.Intn(3) {
		from := r.Intn(len(s) + 1)
		to := min(len(s), from+r.Intn(3))
		piece := ""
		if r.Intn(3) > 0 {
			piece = pieces[r.Intn(len(pieces))]
		}
		s = s[:from] + piece + s[to:]
	}
	return s
}

func TestRandomLines(t *testing.T) {
	r := rand.New(rand.NewSource(25))
	for range 40000 {
		i := someItem(r)
		checkPrint(t, i)
		s, _ := printed(i)
		checkParse(t, s)
		checkParse(t, spoilt(r, s))
	}
}

// scripted is what Script is to answer.
func scripted(text string) ([]script.Item, int, api.Errno) {
	var items []script.Item
	n := 0
	for len(text) > 0 {
		line := text
		text = ""
		if end := strings.Index(line, "\n"); end >= 0 {
			line, text = line[:end], line[end+1:]
		}
		n++
		if line == "" || line[0] == '#' {
			continue
		}
		i, e := parsed(line)
		if e != api.OK {
			return nil, n, e
		}
		items = append(items, i)
	}
	return items, 0, api.OK
}

func checkScript(t *testing.T, text string) {
	t.Helper()
	want, line, errno := scripted(text)
	got, n, e := script.Script(text)
	if n != line || e != errno || len(got) != len(want) || len(want) > 0 && !reflect.DeepEqual(got, want) {
		t.Fatalf("P25.2: Script(%s) = %s, %d, %d, not %s, %d, %d", short(text), short(fmt.Sprint(got)), n, e, short(fmt.Sprint(want)), line, errno)
	}
}

func TestScript(t *testing.T) {
	long := strings.Repeat("x", 20001)
	for _, c := range []struct {
		text   string
		items  int
		number int
		errno  api.Errno
	}{
		{"", 0, 0, api.OK}, {"\n", 0, 0, api.OK}, {"\n\n\n", 0, 0, api.OK}, {"#", 0, 0, api.OK}, {"# 0 size 1", 0, 0, api.OK}, {"#" + long, 0, 0, api.OK},
		{"0 size 1 2", 1, 0, api.OK}, {"0 size 1 2\n", 1, 0, api.OK}, {"\n0 size 1 2\n\n# so\n#\n1 key 1 2\n\n", 2, 0, api.OK}, {"9 size 1 2\n3 size 1 2\n9 size 1 2", 3, 0, api.OK},
		{"x", 0, 1, api.ErrForm}, {"\nx", 0, 2, api.ErrForm}, {"0 size 1 2\n# so\n\nx\n" + long, 0, 4, api.ErrForm}, {"0 size 1 2\n" + long + "\nx", 0, 2, api.ErrSize}, {long, 0, 1, api.ErrSize},
		{" # so", 0, 1, api.ErrForm}, {" ", 0, 1, api.ErrForm}, {"0 size 1 2\r\n", 0, 1, api.ErrForm}, {"0 size 1 2\n\r\n", 0, 2, api.ErrForm}, {"0 size 1 2 # so", 0, 1, api.ErrForm}, {"0 host \"a\n\"", 0, 1, api.ErrForm},
		{`0 host "#"`, 1, 0, api.OK}, {"0 host \"\"\n0 host \"\\x0a\"", 2, 0, api.OK},
	} {
		items, n, e := script.Script(c.text)
		if len(items) != c.items || n != c.number || e != c.errno {
			t.Errorf("P25.2: Script(%s) = %v, %d, %d", short(c.text), items, n, e)
		}
		checkScript(t, c.text)
	}
}

// TestRandomScripts has texts of lines, right ones and wrong ones, and items as a text.
func TestRandomScripts(t *testing.T) {
	r := rand.New(rand.NewSource(252))
	for range 6000 {
		text := ""
		var items []script.Item
		for range r.Intn(8) {
			i := someItem(r)
			items = append(items, i)
			s, _ := printed(i)
			switch r.Intn(12) {
			case 0:
				s = ""
			case 1:
				s = "#" + s
			case 2:
				s = spoilt(r, s)
			}
			text += s + "\n"
		}
		checkScript(t, text)
		checkScript(t, strings.TrimSuffix(text, "\n"))
		checkText(t, items)
	}
}

// checkText holds Text against the model, and has Script undo it.
func checkText(t *testing.T, items []script.Item) {
	t.Helper()
	want, errno := "", api.OK
	var back []script.Item
	for _, i := range items {
		s, e := printed(i)
		if e != api.OK {
			want, errno = "", e
			break
		}
		want += s + "\n"
		back = append(back, used(i))
	}
	got, e := script.Text(items...)
	if got != want || e != errno {
		t.Fatalf("P25.2: Text(%s) = %s, %d, not %s, %d", short(fmt.Sprint(items)), short(got), e, short(want), errno)
	}
	if again, n, err := script.Script(got); e == api.OK && (n != 0 || err != api.OK || len(again) != len(back) || len(back) > 0 && !reflect.DeepEqual(again, back)) {
		t.Fatalf("P25.2: Script(%s) = %s, %d, %d", short(got), short(fmt.Sprint(again)), n, err)
	}
}

func TestText(t *testing.T) {
	right := script.Item{At: 3, Kind: script.Size, Rows: 1, Cols: 2}
	wrong := script.Item{Kind: 3}
	long := script.Item{Data: make([]byte, 4097)}
	for _, c := range []struct {
		items []script.Item
		s     string
		errno api.Errno
	}{
		{nil, "", api.OK}, {[]script.Item{right}, "3 size 1 2\n", api.OK}, {[]script.Item{right, {}, right}, "3 size 1 2\n0 host \"\"\n3 size 1 2\n", api.OK},
		{[]script.Item{right, wrong}, "", api.ErrArg}, {[]script.Item{right, long, wrong}, "", api.ErrSize}, {[]script.Item{wrong, long}, "", api.ErrArg},
	} {
		if s, e := script.Text(c.items...); s != c.s || e != c.errno {
			t.Errorf("P25.2: Text(%s) = %q, %d", short(fmt.Sprint(c.items)), s, e)
		}
		checkText(t, c.items)
	}
}

// TestMemory: items that come in stay as they are; those that go out share nothing.
func TestMemory(t *testing.T) {
	room := []byte("ab\x1Bcd")
	data := room[:3]
	list := []script.Item{{Data: data}, {At: 1, Kind: 7, Data: data}}
	script.Print(list[0])
	script.Text(list...)
	script.Text(list[:1]...)
	if string(room) != "ab\x1Bcd" || list[0].Kind != 0 || list[1].Kind != 7 || !bytes.Equal(list[0].Data, data) {
		t.Errorf("P25.3: what was handed in has changed: %q, %v", room, list)
	}
	text := "0 host \"ab\"\n1 host \"ab\"\n2 host \"cd\""
	first, _, _ := script.Script(text)
	second, _, _ := script.Script(text)
	for i := range first {
		_ = append(first[i].Data, "spoilt"...)
		clear(first[i].Data)
		if i+1 < len(first) && (string(first[i+1].Data) == "\x00\x00" || string(second[i].Data) == "\x00\x00") {
			t.Errorf("P25.3: items share their bytes")
		}
	}
	if s, e := script.Text(second...); s != text+"\n" || e != api.OK {
		t.Errorf("P25.3: items of another answer have become %q", s)
	}
	one, _ := script.Parse(`0 host "ab"`)
	clear(one.Data)
	if two, _ := script.Parse(`0 host "ab"`); string(two.Data) != "ab" {
		t.Errorf("P25.3: Parse keeps what it answered")
	}
}
