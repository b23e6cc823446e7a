package macro_test

import (
	"fmt"
	"maps"
	"math"
	"math/rand"
	"regexp"
	"runtime"
	"slices"
	"strconv"
	"strings"
	"testing"
	"time"

	"phosphor/api"
	"phosphor/macro"
)

// What follows tells by the document's words, apart from the package, what data decode to.

var (
	pairForm   = regexp.MustCompile(`^[0-9A-Fa-f]{2}`)
	repeatForm = regexp.MustCompile(`^!([0-9]*);((?:[0-9A-Fa-f]{2})*)(?:;|$)`)
)

// unhexed are the bytes of digits that are known to be pairs.
func unhexed(digits string) string {
	var b []byte
	for i := 0; i < len(digits); i += 2 {
		n, _ := strconv.ParseUint(digits[i:i+2], 16, 8)
		b = append(b, byte(n))
	}
	return string(b)
}

// often is how many times digits say.
func often(digits string) int {
	digits = strings.TrimLeft(digits, "0")
	if digits == "" {
		return 1
	}
	if len(digits) > 5 {
		return 65535
	}
	n, _ := strconv.Atoi(digits)
	return min(n, 65535)
}

func decoded(data string, most int) (string, api.Errno) {
	var out strings.Builder
	for data != "" {
		if m := repeatForm.FindStringSubmatch(data); m != nil {
			for range often(m[1]) {
				out.WriteString(unhexed(m[2]))
			}
			data = data[len(m[0]):]
		} else if m := pairForm.FindString(data); m != "" {
			out.WriteString(unhexed(m))
			data = data[2:]
		} else {
			return "", api.ErrForm
		}
		if out.Len() > max(most, 0) {
			return "", api.ErrFull
		}
	}
	return out.String(), api.OK
}

// short is a text, as it is shown in a test's report.
func short(s string) string {
	if len(s) > 80 {
		return fmt.Sprintf("%q .. (%d bytes)", s[:80], len(s))
	}
	return strconv.Quote(s)
}

func checkDecode(t *testing.T, data string, most int) {
	t.Helper()
	want, errno := decoded(data, most)
	if got, e := macro.Decode(data, most); got != want || e != errno {
		t.Fatalf("P20.1: Decode(%s, %d) = %s, %d, not %s, %d", short(data), most, short(got), e, short(want), errno)
	}
}

func TestDecodeExamples(t *testing.T) {
	for _, x := range []struct {
		data string
		most int
		want string
		e    api.Errno
	}{
		{"41!3;4243;44", 99, "ABCBCBCD", 0}, {"!;4", 9, "", api.ErrForm}, {"!99;41", 9, "", api.ErrFull}, {"414", 1, "", api.ErrForm}, {"41424", 1, "", api.ErrFull},
		{"", 0, "", 0}, {"", -1, "", 0}, {"", math.MinInt, "", 0}, {"41", 0, "", api.ErrFull}, {"41", -1, "", api.ErrFull}, {"41", math.MinInt, "", api.ErrFull}, {"41", 1, "A", 0}, {"4", 0, "", api.ErrForm}, {"4", -9, "", api.ErrForm},
		{"00fFFf0a", 4, "\x00\xFF\xFF\n", 0}, {"4142", 1, "", api.ErrFull}, {"41xx", 1, "", api.ErrForm}, {"4142xx", 1, "", api.ErrFull}, {"xx41", 0, "", api.ErrForm}, {"4x", 9, "", api.ErrForm}, {"x4", 9, "", api.ErrForm}, {" 41", 9, "", api.ErrForm},
		{"41;", 9, "", api.ErrForm}, {";41", 9, "", api.ErrForm}, {"+1", 9, "", api.ErrForm}, {"-1", 9, "", api.ErrForm}, {"1_", 9, "", api.ErrForm}, {"0x", 9, "", api.ErrForm},
		// No number, and 0, are once.
		{"!;41", 9, "A", 0}, {"!0;41", 9, "A", 0}, {"!000;41;", 9, "A", 0}, {"!1;41;", 9, "A", 0}, {"!002;41;42", 9, "AAB", 0},
		// A repeat of nothing is nothing; the semicolon behind it belongs to it.
		{"!3;", 0, "", 0}, {"!3;;", 0, "", 0}, {"!3;;41", 1, "A", 0}, {"!3;;;", 9, "", api.ErrForm}, {"!65535;;41", 1, "A", 0}, {"!;", -1, "", 0},
		{"!", 9, "", api.ErrForm}, {"!3", 9, "", api.ErrForm}, {"!;;;", 9, "", api.ErrForm}, {"!3;4", 9, "", api.ErrForm}, {"!3;4;", 9, "", api.ErrForm}, {"!3;4x;", 9, "", api.ErrForm}, {"!x;41;", 9, "", api.ErrForm}, {"!-1;41;", 9, "", api.ErrForm}, {"! 1;41;", 9, "", api.ErrForm},
		{"!1 ;41;", 9, "", api.ErrForm}, {"!3,41;", 9, "", api.ErrForm}, {"!341", 9, "", api.ErrForm}, {"4!3;41", 9, "", api.ErrForm},
		// No ! among the bytes of a repeat; behind it there may be another one.
		{"!2;41!2;42", 9, "", api.ErrForm}, {"!2;!2;42", 9, "", api.ErrForm}, {"!2;41;!2;42", 9, "AABB", 0}, {"!2;41;!2;42;43", 9, "AABBC", 0}, {"!!", 9, "", api.ErrForm}, {"!!;41", 9, "", api.ErrForm},
		// Asked behind each repeat: just as many as may be, and one more.
		{"!3;4142;", 6, "ABABAB", 0}, {"!3;4142;", 5, "", api.ErrFull}, {"41!3;42;", 4, "ABBB", 0}, {"41!3;42;", 3, "", api.ErrFull}, {"!3;42;41", 3, "", api.ErrFull}, {"!3;42;4", 3, "", api.ErrForm}, {"!3;42;4", 2, "", api.ErrFull},
		// A repeat that is wrong is told where its ! stands, though some of its bytes would be too many.
		{"!9;414243x", 1, "", api.ErrForm}, {"!9;4142434", 1, "", api.ErrForm}, {"!9;41!", 1, "", api.ErrForm}, {"!9;41;x", 1, "", api.ErrFull}, {"4142!", 1, "", api.ErrFull}, {"41!", 1, "", api.ErrForm},
	} {
		if got, e := macro.Decode(x.data, x.most); got != x.want || e != x.e {
			t.Errorf("P20.1: Decode(%q, %d) = %q, %d, not %q, %d", x.data, x.most, got, e, x.want, x.e)
		}
		if want, e := decoded(x.data, x.most); want != x.want || e != x.e {
			t.Errorf("P20.1: Decode(%q, %d): the test's own reading is %q, %d", x.data, x.most, want, e)
		}
	}
}

func TestDecodeOfShortTexts(t *testing.T) {
	list := []string{""}
	for done, length := 0, 0; length < 7; length++ {
		end := len(list)
		for _, text := range list[done:end] {
			for _, c := range []string{"4", "a", "!", ";", "0"} {
				list = append(list, text+c)
			}
		}
		done = end
	}
	for _, data := range list {
		for _, most := range []int{-1, 0, 1, 2, 3, 4, 44, math.MaxInt} {
			checkDecode(t, data, most)
		}
	}
}

// Every byte in every place of data that are right.
func TestDecodeOfEveryByte(t *testing.T) {
	for _, data := range []string{"41!3;4243;44", "!12;41;!;42;", "0A1b2C"} {
		for i := range len(data) {
			for c := range 256 {
				b := string([]byte{byte(c)})
				for _, most := range []int{0, 3, 8, 99} {
					checkDecode(t, data[:i]+b+data[i+1:], most)
					checkDecode(t, data[:i]+b+data[i:], most)
				}
			}
		}
	}
	for a := range 256 {
		for b := range 256 {
			pair := string([]byte{byte(a), byte(b)})
			checkDecode(t, pair, 1)
			checkDecode(t, "!2;"+pair, 2)
		}
	}
}

func TestDecodeOfAnyTexts(t *testing.T) {
	rnd := rand.New(rand.NewSource(201))
	parts := []string{"41", "42", "ff", "C3", "!2;", "!;", "!10;", "!65536;", ";", ";", "4", "!", "g", "0"}
	for range 100000 {
		data := ""
		for range rnd.Intn(9) {
			data += parts[rnd.Intn(len(parts))]
		}
		checkDecode(t, data, rnd.Intn(40)-2)
	}
}

// More than 65535 times is as often as that.
func TestDecodeOfManyTimes(t *testing.T) {
	for _, x := range []struct {
		count string
		times int
	}{
		{"65534", 65534}, {"65535", 65535}, {"65536", 65535}, {"65537", 65535}, {"99999", 65535}, {"131071", 65535}, {"4294967297", 65535}, {"18446744073709551617", 65535},
		{strings.Repeat("9", 100000), 65535}, {strings.Repeat("0", 100000) + "3", 3}, {strings.Repeat("0", 100000), 1},
	} {
		for _, body := range []string{"41", "4142"} {
			want := strings.Repeat(unhexed(body), x.times)
			data := "!" + x.count + ";" + body + ";"
			if got, e := macro.Decode(data, len(want)); got != want || e != api.OK {
				t.Errorf("P20.1: Decode(%s) has %d bytes, %d, not %d", short(data), len(got), e, len(want))
			}
			if got, e := macro.Decode(data, math.MaxInt); got != want || e != api.OK {
				t.Errorf("P20.1: Decode(%s) has %d bytes, %d, not %d", short(data), len(got), e, len(want))
			}
			if got, e := macro.Decode(data, len(want)-1); got != "" || e != api.ErrFull {
				t.Errorf("P20.1: Decode(%s, %d) has %d bytes, %d", short(data), len(want)-1, len(got), e)
			}
		}
	}
}

// What would be too much isn't made first: neither by one great repeat, nor by many of nothing.
func TestDecodeIsBounded(t *testing.T) {
	body := strings.Repeat("41", 1<<20)
	var before, behind runtime.MemStats
	runtime.ReadMemStats(&before)
	for _, most := range []int{0, 6144, 1 << 20} {
		if got, e := macro.Decode("!65535;"+body, most); got != "" || e != api.ErrFull {
			t.Errorf("P20.1: a great repeat: %d bytes, %d", len(got), e)
		}
	}
	runtime.ReadMemStats(&behind)
	if used := behind.TotalAlloc - before.TotalAlloc; used > 256<<20 {
		t.Errorf("P20.1: a great repeat takes %d bytes", used)
	}
	begun := time.Now()
	if got, e := macro.Decode(strings.Repeat("!65535;;", 1<<20), 0); got != "" || e != api.OK {
		t.Errorf("P20.1: repeats of nothing: %d bytes, %d", len(got), e)
	}
	if took := time.Since(begun); took > 30*time.Second {
		t.Errorf("P20.1: repeats of nothing take %v", took)
	}
}

// model is what macros there are to be.
type model map[int]string

func (m model) size() int {
	n := 0
	for _, text := range m {
		n += len(text)
	}
	return n
}

// define tells the macros behind a definition, and the error.
func (m model) define(id int, clear, hex bool, data string) (model, api.Errno) {
	if id < 0 || id > 63 {
		return m, api.ErrArg
	}
	then := maps.Clone(m)
	if clear {
		then = model{}
	}
	delete(then, id)
	left := 6144 - then.size()
	text := data
	if hex {
		var e api.Errno
		text, e = decoded(data, left)
		if e != api.OK {
			return m, e
		}
	}
	if len(text) > left {
		return m, api.ErrFull
	}
	if text != "" {
		then[id] = text
	}
	return then, api.OK
}

// check holds all that a store tells against what there is to be.
func (m model) check(t *testing.T, promise string, s *macro.Store) {
	t.Helper()
	sum := 0
	for id := -2; id < 70; id++ {
		want, there := m[id]
		if got, ok := s.Get(id); got != want || ok != there {
			t.Fatalf("%s: Get(%d) = %s, %v, not %s, %v", promise, id, short(got), ok, short(want), there)
		}
		for i := range len(want) {
			sum += int(want[i])
		}
	}
	if got, want := s.Ids(), slices.Sorted(maps.Keys(m)); !slices.Equal(got, want) {
		t.Fatalf("%s: Ids = %v, not %v", promise, got, want)
	}
	if got, want := s.Space(), 6144-m.size(); got != want || got < 0 {
		t.Fatalf("%s: Space = %d, not %d", promise, got, want)
	}
	if got := s.Sum(); got != sum%65536 {
		t.Fatalf("%s: Sum = %d, not %d", promise, got, sum%65536)
	}
}

// filled is a store with these macros.
func filled(t *testing.T, m model) *macro.Store {
	t.Helper()
	s := &macro.Store{}
	for id, text := range m {
		if e := s.Define(id, false, false, text); e != api.OK {
			t.Fatalf("P20.2: Define(%d, %s) = %d", id, short(text), e)
		}
	}
	return s
}

func TestZeroStore(t *testing.T) {
	var s macro.Store
	model{}.check(t, "P20.2", &s)
	if s.Ids() != nil || s.Space() != 6144 || s.Sum() != 0 {
		t.Errorf("P20.2: the zero store: %v, %d, %d", s.Ids(), s.Space(), s.Sum())
	}
	s.Clear()
	other := s.Clone()
	model{}.check(t, "P20.2", other)
	if !s.Same(other) || !other.Same(&s) || !s.Same(&macro.Store{}) {
		t.Error("P20.2: zero stores aren't the same")
	}
	if e := other.Define(3, true, false, "abc"); e != api.OK || s.Same(other) || other.Same(&s) {
		t.Errorf("P20.2: Define = %d, and the store without is the same", e)
	}
	model{}.check(t, "P20.2", &s)
	for _, hex := range []bool{false, true} {
		if e := s.Define(0, true, hex, ""); e != api.OK {
			t.Errorf("P20.2: Define of nothing = %d", e)
		}
		model{}.check(t, "P20.2", &s)
	}
}

func TestDefineExamples(t *testing.T) {
	begin := model{0: "first", 7: "\x1B[m", 63: "last"}
	for _, x := range []struct {
		id         int
		clear, hex bool
		data       string
		want       model
		e          api.Errno
	}{
		{1, false, false, "4142", model{0: "first", 1: "4142", 7: "\x1B[m", 63: "last"}, 0},
		{1, false, true, "4142", model{0: "first", 1: "AB", 7: "\x1B[m", 63: "last"}, 0},
		{1, true, true, "4142", model{1: "AB"}, 0},
		{7, false, true, "!3;41", model{0: "first", 7: "AAA", 63: "last"}, 0},
		{7, true, false, "x", model{7: "x"}, 0},
		{7, false, false, "", model{0: "first", 63: "last"}, 0},
		{7, false, true, "", model{0: "first", 63: "last"}, 0},
		{7, false, true, "!9;", model{0: "first", 63: "last"}, 0},
		{8, false, false, "", begin, 0},
		{8, true, false, "", model{}, 0},
		{7, true, true, "!9;;", model{}, 0},
		{63, false, false, "\x00\xFF", model{0: "first", 7: "\x1B[m", 63: "\x00\xFF"}, 0},
		{-1, true, false, "x", begin, api.ErrArg}, {64, true, false, "x", begin, api.ErrArg}, {math.MinInt, true, true, "x", begin, api.ErrArg}, {math.MaxInt, false, true, "", begin, api.ErrArg}, {1 << 32, false, false, "x", begin, api.ErrArg},
		{64, false, true, "!9999;41", begin, api.ErrArg}, {1, true, true, "4", begin, api.ErrForm}, {1, false, true, "!4;!", begin, api.ErrForm}, {7, true, true, "41;", begin, api.ErrForm},
		{1, false, true, "!65535;41", begin, api.ErrFull}, {1, true, true, "!6145;41;", begin, api.ErrFull}, {1, false, false, strings.Repeat("x", 6145), begin, api.ErrFull}, {1, true, false, strings.Repeat("x", 6145), begin, api.ErrFull},
		// What is left: 6144 less 12, and less 9 beside macro 7.
		{1, false, true, "!6133;41", begin, api.ErrFull}, {1, false, false, strings.Repeat("x", 6133), begin, api.ErrFull}, {7, false, true, "!6136;41", begin, api.ErrFull}, {7, false, false, strings.Repeat("x", 6136), begin, api.ErrFull},
		{1, false, true, "!6132;41", model{0: "first", 1: strings.Repeat("A", 6132), 7: "\x1B[m", 63: "last"}, 0},
		{1, false, false, strings.Repeat("x", 6132), model{0: "first", 1: strings.Repeat("x", 6132), 7: "\x1B[m", 63: "last"}, 0},
		{7, false, true, "!6135;41", model{0: "first", 7: strings.Repeat("A", 6135), 63: "last"}, 0},
		{7, false, false, strings.Repeat("x", 6135), model{0: "first", 7: strings.Repeat("x", 6135), 63: "last"}, 0},
		{1, true, true, "!6144;41", model{1: strings.Repeat("A", 6144)}, 0},
		{1, true, false, strings.Repeat("x", 6144), model{1: strings.Repeat("x", 6144)}, 0},
		// The first thing that is wrong: the space is used up, or the form is left.
		{1, false, true, "!6132;41;4", begin, api.ErrForm}, {1, false, true, "!6132;41;424", begin, api.ErrFull}, {1, true, true, "!6144;41;4", begin, api.ErrForm}, {1, true, true, "!6144;41;424", begin, api.ErrFull},
	} {
		s := filled(t, begin)
		if e := s.Define(x.id, x.clear, x.hex, x.data); e != x.e {
			t.Errorf("P20.2: Define(%d, %v, %v, %s) = %d, not %d", x.id, x.clear, x.hex, short(x.data), e, x.e)
		}
		promise := "P20.2"
		if x.e != api.OK {
			promise = "P20.3"
		}
		x.want.check(t, promise, s)
	}
}

// The space is used up to the last byte, by one macro, or by all of them.
func TestSpaceIsUsedUp(t *testing.T) {
	want := model{}
	s := &macro.Store{}
	for id := range 64 {
		text := strings.Repeat(string(rune('0'+id)), 96)
		want[id] = text
		if e := s.Define(id, false, false, text); e != api.OK {
			t.Fatalf("P20.3: Define(%d) = %d", id, e)
		}
		want.check(t, "P20.3", s)
	}
	for id := range 64 {
		for _, hex := range []bool{false, true} {
			if e := s.Define(id, false, hex, strings.Repeat("41", 97+97*(1-id%2))); e != api.ErrFull {
				t.Fatalf("P20.3: Define(%d) with one byte too many = %d", id, e)
			}
		}
		want.check(t, "P20.3", s)
	}
	if e := s.Define(5, false, false, ""); e != api.OK || s.Space() != 96 {
		t.Errorf("P20.3: Define of nothing = %d, and %d bytes are left", e, s.Space())
	}
	if e := s.Define(6, false, true, "!192;43;"); e != api.OK || s.Space() != 0 {
		t.Errorf("P20.3: Define of twice as many = %d, and %d bytes are left", e, s.Space())
	}
}

// All that calls, one behind the other, make of a store is what they are said to make.
func TestAnyDefinitions(t *testing.T) {
	rnd := rand.New(rand.NewSource(202))
	s, want := &macro.Store{}, model{}
	errors := map[api.Errno]int{}
	for step := range 20000 {
		switch rnd.Intn(200) {
		case 0:
			s.Clear()
			want = model{}
		case 1:
			// The one that was cloned goes on by itself, and is no more.
			old := s
			s = s.Clone()
			old.Define(rnd.Intn(64), true, false, "gone")
			old.Clear()
		}
		id := rnd.Intn(67) - 1
		if rnd.Intn(3) > 0 {
			id = rnd.Intn(6)
		}
		data := ""
		switch rnd.Intn(6) {
		case 0:
			data = strings.Repeat("4a", rnd.Intn(2000))
		case 1:
			data = "!" + strconv.Itoa(rnd.Intn(7000)) + ";42" + strings.Repeat("FF", rnd.Intn(2))
		case 2:
			data = strings.Repeat("7F", rnd.Intn(5)) + "!3;" + strings.Repeat("e9", rnd.Intn(3)) + ";" + strings.Repeat("0", rnd.Intn(3))
		case 3:
			data = strings.Repeat("\xFF", rnd.Intn(4000))
		case 4:
			data = "text"
		}
		clear, hex := rnd.Intn(40) == 0, rnd.Intn(2) == 0
		then, errno := want.define(id, clear, hex, data)
		if e := s.Define(id, clear, hex, data); e != errno {
			t.Fatalf("P20.2: step %d: Define(%d, %v, %v, %s) = %d, not %d", step, id, clear, hex, short(data), e, errno)
		}
		errors[errno]++
		want = then
		want.check(t, "P20.2", s)
	}
	for _, e := range []api.Errno{api.OK, api.ErrArg, api.ErrForm, api.ErrFull} {
		if errors[e] < 100 {
			t.Errorf("P20.2: the error %d came %d times", e, errors[e])
		}
	}
}

func TestClear(t *testing.T) {
	s := filled(t, model{0: "a", 63: "b"})
	s.Clear()
	model{}.check(t, "P20.2", s)
	if !s.Same(&macro.Store{}) || !(&macro.Store{}).Same(s) {
		t.Error("P20.2: a store that was cleared isn't the same as the zero one")
	}
	if e := s.Define(63, false, false, "c"); e != api.OK {
		t.Errorf("P20.2: Define behind Clear = %d", e)
	}
	model{63: "c"}.check(t, "P20.2", s)
}

func TestClone(t *testing.T) {
	first := model{0: "a", 5: "bcd", 63: "e"}
	for _, change := range []func(s *macro.Store){
		func(s *macro.Store) { s.Define(0, false, false, "x") },
		func(s *macro.Store) { s.Define(1, false, false, "x") },
		func(s *macro.Store) { s.Define(5, false, false, "") },
		func(s *macro.Store) { s.Define(5, true, true, "78") },
		func(s *macro.Store) { s.Define(9, true, false, "") },
		func(s *macro.Store) { s.Clear() },
	} {
		s := filled(t, first)
		other := s.Clone()
		first.check(t, "P20.2", other)
		if !s.Same(other) || !other.Same(s) {
			t.Error("P20.2: a clone isn't the same")
		}
		change(s)
		first.check(t, "P20.2", other)
		if s.Same(other) || other.Same(s) {
			t.Error("P20.2: a clone is the same as a store that has become another one")
		}
		s = filled(t, first)
		other = s.Clone()
		change(other)
		first.check(t, "P20.2", s)
	}
}

func TestSame(t *testing.T) {
	list := []model{{}, {0: "a"}, {1: "a"}, {0: "b"}, {0: "a", 1: "a"}, {0: "ab"}, {0: "ba"}, {0: "a", 1: "b"}, {0: "b", 1: "a"}, {63: "a"}, {0: "\x00"}, {0: "\x00\x00"}}
	for i, a := range list {
		for k, b := range list {
			if got := filled(t, a).Same(filled(t, b)); got != (i == k) {
				t.Errorf("P20.2: Same of %v and %v = %v", a, b, got)
			}
		}
	}
	s := filled(t, model{0: "a", 1: "b"})
	if !s.Same(s) {
		t.Error("P20.2: a store isn't the same as itself")
	}
	// How the same macros came makes no difference.
	other := &macro.Store{}
	other.Define(1, false, true, "!3;41")
	other.Define(9, false, false, "gone")
	other.Define(1, true, true, "62")
	other.Define(0, false, true, "61")
	if !s.Same(other) || !other.Same(s) {
		t.Error("P20.2: the same macros aren't the same")
	}
}

func TestSum(t *testing.T) {
	for _, x := range []struct {
		m    model
		want int
	}{
		{model{}, 0}, {model{0: "a"}, 97}, {model{0: "a", 63: "bc"}, 97 + 98 + 99}, {model{9: "\x00"}, 0}, {model{9: "\xFF\x80"}, 255 + 128},
		{model{0: strings.Repeat("\xFF", 257)}, 65535}, {model{0: strings.Repeat("\xFF", 257), 1: "\x01"}, 0}, {model{0: strings.Repeat("\xFF", 257), 1: "\x02"}, 1}, {model{3: strings.Repeat("\xFF", 6144)}, 6144 * 255 % 65536},
	} {
		if got := filled(t, x.m).Sum(); got != x.want {
			t.Errorf("P20.2: Sum = %d, not %d", got, x.want)
		}
	}
}

func TestIdsAreNewMemory(t *testing.T) {
	s := filled(t, model{2: "a", 11: "b", 40: "c", 7: "d"})
	ids := s.Ids()
	if !slices.Equal(ids, []int{2, 7, 11, 40}) {
		t.Errorf("P20.2: Ids = %v", ids)
	}
	clear(ids)
	if got := s.Ids(); !slices.Equal(got, []int{2, 7, 11, 40}) {
		t.Errorf("P20.2: Ids, behind a change of what was answered = %v", got)
	}
}
