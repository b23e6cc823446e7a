package param_test

import (
	"math"
	"math/rand"
	"slices"
	"strconv"
	"strings"
	"testing"

	"phosphor/api"
	"phosphor/param"
)

// numbersOf tells by the document's words, apart from the package, which numbers a text of digits and semicolons is.
func numbersOf(s string) []int {
	if s == "" {
		return nil
	}
	var list []int
	for _, digits := range strings.Split(s, ";") {
		digits = strings.TrimLeft(digits, "0")
		n := 0
		if len(digits) > 5 {
			n = 65535
		} else if digits != "" {
			n, _ = strconv.Atoi(digits)
			n = min(n, 65535)
		}
		list = append(list, n)
	}
	return list[:min(len(list), 30)]
}

func right(s string) bool {
	return strings.Trim(s, "0123456789;") == ""
}

// texts are all of up to so many of these letters.
func texts(letters string, most int) []string {
	list := []string{""}
	for done, length := 0, 0; length < most; length++ {
		end := len(list)
		for _, s := range list[done:end] {
			for i := range len(letters) {
				list = append(list, s+letters[i:i+1])
			}
		}
		done = end
	}
	return list
}

// rising is 1;2;3 and so on up to n.
func rising(n int) string {
	var list []string
	for i := range n {
		list = append(list, strconv.Itoa(i+1))
	}
	return strings.Join(list, ";")
}

// longTexts are about the limits of how many numbers there are, how great they are, and how many digits they have.
func longTexts() []string {
	list := []string{
		strings.Repeat("9", 5000), strings.Repeat("0", 5000), strings.Repeat("0", 5000) + "7", strings.Repeat(";", 5000), strings.Repeat("12;", 3000) + "5",
		"65534", "65535", "65536", "065535", "0065536", "65539", "655350", "99999", "100000", "131072", "4294967295", "4294967296", "4294967297",
		"9223372036854775807", "9223372036854775808", "18446744073709551616", "18446744073709551617", "1;18446744073709551617;2", "65536;65537;1",
	}
	for n := 27; n <= 33; n++ {
		list = append(list, rising(n), rising(n)+";", rising(n)+";;", ";"+rising(n), strings.Repeat(";", n), rising(n)+"999999", rising(n)+";77;88")
	}
	return list
}

func newAcc(t *testing.T, s string) *param.Acc {
	t.Helper()
	var a param.Acc
	feed(t, &a, s)
	return &a
}

func feed(t *testing.T, a *param.Acc, s string) {
	t.Helper()
	for i := range len(s) {
		if !a.Byte(s[i]) {
			t.Fatalf("P4.2: Byte(%q) of %q isn't taken", s[i], s)
		}
	}
}

func TestParseExamples(t *testing.T) {
	for _, x := range []struct {
		s    string
		want []int
	}{
		{"", nil},
		{"1;;99999", []int{1, 0, 65535}},
		{";", []int{0, 0}},
		{"0", []int{0}},
		{"7", []int{7}},
		{"007", []int{7}},
		{"1;", []int{1, 0}},
		{";1", []int{0, 1}},
		{";;", []int{0, 0, 0}},
		{"12;345;6", []int{12, 345, 6}},
		{"65534;65535;65536", []int{65534, 65535, 65535}},
	} {
		if got, e := param.Parse(x.s); e != api.OK || !slices.Equal(got, x.want) {
			t.Errorf("P4.1: Parse(%q) = %v, %d, not %v", x.s, got, e, x.want)
		}
	}
}

func TestParseShortTexts(t *testing.T) {
	for _, s := range texts("0159;,", 6) {
		got, e := param.Parse(s)
		if !right(s) {
			if len(got) != 0 || e != api.ErrForm {
				t.Fatalf("P4.1: Parse(%q) = %v, %d", s, got, e)
			}
		} else if want := numbersOf(s); e != api.OK || !slices.Equal(got, want) {
			t.Fatalf("P4.1: Parse(%q) = %v, %d, not %v", s, got, e, want)
		}
	}
}

func TestParseLongTexts(t *testing.T) {
	for _, s := range longTexts() {
		want := numbersOf(s)
		if got, e := param.Parse(s); e != api.OK || !slices.Equal(got, want) || len(got) > api.MaxParams {
			t.Errorf("P4.1: Parse(%q) = %v, %d, not %v", s, got, e, want)
		}
	}
	got, _ := param.Parse(rising(31) + "5")
	if len(got) != 30 || got[29] != 30 {
		t.Errorf("P4.1: numbers behind the last one are taken: %v", got)
	}
}

func TestParseEveryByte(t *testing.T) {
	for c := range 256 {
		b := string([]byte{byte(c)})
		for _, s := range []string{b, "1" + b, b + "1", "1;" + b, b + ";2", rising(40) + b, rising(40) + ";" + b + "1"} {
			got, e := param.Parse(s)
			if right(s) {
				if e != api.OK || !slices.Equal(got, numbersOf(s)) {
					t.Errorf("P4.1: Parse(%q) = %v, %d", s, got, e)
				}
			} else if len(got) != 0 || e != api.ErrForm {
				t.Errorf("P4.1: Parse(%q) = %v, %d", s, got, e)
			}
		}
	}
	for _, s := range []string{"1,2", "-1", "+1", " 1", "1 ", "1:2", "1/2", "0x1", "1_0", "1.5", "1e2", "?1", "٣", "１", "1;\xff", "\x00"} {
		if got, e := param.Parse(s); len(got) != 0 || e != api.ErrForm {
			t.Errorf("P4.1: Parse(%q) = %v, %d", s, got, e)
		}
	}
}

func TestFormat(t *testing.T) {
	many := make([]int, 31)
	for i := range many {
		many[i] = i + 1
	}
	for _, x := range []struct {
		list []int
		want string
	}{
		{nil, ""},
		{[]int{}, ""},
		{[]int{0}, "0"},
		{[]int{0, 0}, "0;0"},
		{[]int{1, 0, 70000}, "1;0;65535"},
		{[]int{10, 200, 3000, 40000}, "10;200;3000;40000"},
		{[]int{65534, 65535, 65536}, "65534;65535;65535"},
		{[]int{-1, 5, -70000}, "0;5;0"},
		{[]int{math.MinInt, math.MaxInt, 1 << 32, -1 << 32, math.MinInt32, math.MaxInt32, 1<<32 + 7}, "0;65535;65535;0;0;65535;65535"},
		{many[:29], rising(29)},
		{many[:30], rising(30)},
		{many, rising(30)},
		{make([]int, 5000), strings.Repeat("0;", 29) + "0"},
	} {
		if got := param.Format(x.list...); got != x.want {
			t.Errorf("P4.1: Format(%v) = %q, not %q", x.list, got, x.want)
		}
	}
}

func TestParseAndFormatUndoEachOther(t *testing.T) {
	rnd := rand.New(rand.NewSource(41))
	for length := 0; length <= 30; length++ {
		for range 50 {
			list := make([]int, length)
			for i := range list {
				list[i] = rnd.Intn(65536) >> rnd.Intn(17)
			}
			s := param.Format(list...)
			back, e := param.Parse(s)
			if e != api.OK || !slices.Equal(back, list) {
				t.Fatalf("P4.1: %v comes back as %v, %d", list, back, e)
			}
			if again := param.Format(back...); again != s {
				t.Fatalf("P4.1: %q comes back as %q", s, again)
			}
		}
	}
	for n := range 65536 {
		if back, e := param.Parse(param.Format(n)); e != api.OK || len(back) != 1 || back[0] != n {
			t.Fatalf("P4.1: %d comes back as %v, %d", n, back, e)
		}
	}
}

func TestAccCollectsWhatParseReads(t *testing.T) {
	for _, s := range append(texts("059;", 6), longTexts()...) {
		a := newAcc(t, s)
		want, _ := param.Parse(s)
		if got := a.List(); !slices.Equal(got, want) || !slices.Equal(got, numbersOf(s)) {
			t.Fatalf("P4.2: the numbers of %q: %v, not %v", s, got, want)
		}
	}
}

// What it answers between two bytes is of those that were taken, and asking changes nothing.
func TestAccByteByByte(t *testing.T) {
	var a param.Acc
	s := "1;;65536;" + rising(28) + "9"
	for i := range len(s) {
		if got := a.List(); !slices.Equal(got, numbersOf(s[:i])) {
			t.Fatalf("P4.2: the numbers of %q: %v", s[:i], got)
		}
		feed(t, &a, s[i:i+1])
	}
}

func TestAccTakesNoOtherByte(t *testing.T) {
	for _, s := range []string{"", "0", "1", ";", "12;", "12;34", "65535", rising(29) + ";", rising(30), rising(30) + ";", rising(31)} {
		for c := range 256 {
			a, was := newAcc(t, s), newAcc(t, s)
			if right(string([]byte{byte(c)})) {
				if !a.Byte(byte(c)) {
					t.Errorf("P4.2: Byte(%q) isn't taken behind %q", byte(c), s)
				}
				continue
			}
			if a.Byte(byte(c)) {
				t.Errorf("P4.2: Byte(%q) is taken behind %q", byte(c), s)
			}
			if !slices.Equal(a.List(), was.List()) || !a.Same(was) {
				t.Errorf("P4.2: Byte(%q) changes something behind %q", byte(c), s)
			}
			feed(t, a, "5;6")
			if !slices.Equal(a.List(), numbersOf(s+"5;6")) {
				t.Errorf("P4.2: Byte(%q) changes behind %q what comes: %v", byte(c), s, a.List())
			}
		}
	}
}

func TestAccClear(t *testing.T) {
	ends := []string{"", "3", ";", "1;2", rising(30), strings.Repeat(";", 40)}
	for _, s := range append(texts("09;", 3), longTexts()...) {
		a := newAcc(t, s)
		for _, end := range ends {
			a.Clear()
			if got := a.List(); len(got) != 0 {
				t.Fatalf("P4.2: Clear behind %q leaves %v", s, got)
			}
			if !a.Same(new(param.Acc)) || !new(param.Acc).Same(a) {
				t.Fatalf("P4.2: Clear behind %q isn't the beginning", s)
			}
			feed(t, a, end)
			if !slices.Equal(a.List(), numbersOf(end)) {
				t.Fatalf("P4.2: Clear behind %q, and %q: %v", s, end, a.List())
			}
		}
	}
}

// Here are bytes that two could part by; a hundred semicolons and more wouldn't tell anything else.
var further = []string{"", "0", "1", "9", "00", "10", "99999", ";", ";1", ";;", "1;1", "0;0;1", strings.Repeat(";", 28) + "1", strings.Repeat(";", 29) + "1", strings.Repeat(";", 30) + "1"}

func part(s, u string) bool {
	for _, end := range further {
		if !slices.Equal(numbersOf(s+end), numbersOf(u+end)) {
			return true
		}
	}
	return false
}

func TestAccSame(t *testing.T) {
	list := append(texts("07;", 4), "6553", "65535", "65536", "99999", ";65535", "65535;", "07;65535",
		rising(29), rising(29)+";", rising(29)+";0", rising(29)+";1", rising(30), rising(30)+"0", rising(30)+";", rising(30)+";0", rising(30)+";5;6", rising(31),
		strings.Repeat(";", 28), strings.Repeat(";", 29), strings.Repeat(";", 30), strings.Repeat(";", 31), strings.Repeat(";", 60))
	accs := map[string]*param.Acc{}
	for _, s := range list {
		accs[s] = newAcc(t, s)
	}
	apart := 0
	for _, s := range list {
		for _, u := range list {
			got := accs[s].Same(accs[u])
			if s == u && !got {
				t.Errorf("P4.2: %q isn't the Same as itself", s)
			}
			if part(s, u) {
				apart++
				if got {
					t.Errorf("P4.2: %q and %q are the Same", s, u)
				}
			}
		}
		if other := newAcc(t, s); !other.Same(accs[s]) || !accs[s].Same(other) {
			t.Errorf("P4.2: two that have taken %q aren't the Same", s)
		}
	}
	if apart < 1000 {
		t.Errorf("too few that part: %d", apart)
	}
}

func TestAccSameBehindClear(t *testing.T) {
	for _, s := range append(texts("07;", 3), longTexts()...) {
		a := newAcc(t, "1;2;3"+s)
		a.Clear()
		feed(t, a, s)
		if b := newAcc(t, s); !a.Same(b) || !b.Same(a) {
			t.Errorf("P4.2: behind Clear %q isn't the Same", s)
		}
		if b := newAcc(t, "1;2;3"+s); a.Same(b) {
			t.Errorf("P4.2: Clear ahead of %q makes nothing of what was", s)
		}
	}
}

func TestAccClone(t *testing.T) {
	for _, s := range append(texts("07;", 3), longTexts()...) {
		a := newAcc(t, s)
		b := a.Clone()
		if b == a || !b.Same(a) || !a.Same(b) || !slices.Equal(b.List(), numbersOf(s)) {
			t.Fatalf("P4.2: Clone behind %q: %v", s, b.List())
		}
		feed(t, b, "5;6")
		if !slices.Equal(a.List(), numbersOf(s)) || !a.Same(newAcc(t, s)) {
			t.Fatalf("P4.4: what its Clone takes shows behind %q: %v", s, a.List())
		}
		if !slices.Equal(b.List(), numbersOf(s+"5;6")) || !b.Same(newAcc(t, s+"5;6")) {
			t.Fatalf("P4.2: Clone behind %q goes on otherwise: %v", s, b.List())
		}
		c := a.Clone()
		feed(t, a, "8")
		a.Clear()
		if !slices.Equal(c.List(), numbersOf(s)) {
			t.Fatalf("P4.4: what is done with it shows in its Clone behind %q: %v", s, c.List())
		}
	}
}

// A copy by value is one of its own, too.
func TestAccAsValue(t *testing.T) {
	a := *newAcc(t, "1;2")
	b := a
	feed(t, &b, "3;4")
	if !slices.Equal(a.List(), []int{1, 2}) || !slices.Equal(b.List(), []int{1, 23, 4}) {
		t.Errorf("P4.4: two values share memory: %v, %v", a.List(), b.List())
	}
}

func TestAccIsBounded(t *testing.T) {
	var a param.Acc
	bytes := []byte("1234567890;")
	i := 0
	if n := testing.AllocsPerRun(100000, func() {
		a.Byte(bytes[i%len(bytes)])
		i++
	}); n != 0 {
		t.Errorf("P4.2: a byte takes memory: %v", n)
	}
	if got := a.List(); len(got) != 30 || cap(got) > 64 {
		t.Errorf("P4.2: %d numbers, room for %d", len(got), cap(got))
	}
	if n := testing.AllocsPerRun(100, func() { a.List() }); n > 1 {
		t.Errorf("P4.2: List takes memory %v times", n)
	}
}

func TestGetAndRaw(t *testing.T) {
	list := []int{0, 5, -3, 65535, 0, math.MinInt, math.MaxInt}
	places := []int{math.MinInt, math.MinInt32, -1 << 32, -7, -1, 0, 1, 2, 3, 4, 5, 6, 7, 8, 1 << 32, 1<<32 + 1, math.MaxInt32, math.MaxInt}
	for _, i := range places {
		want := 0
		for at, n := range list {
			if at == i {
				want = n
			}
		}
		if got := param.Raw(list, i); got != want {
			t.Errorf("P4.3: Raw(%v, %d) = %d, not %d", list, i, got, want)
		}
		for _, def := range []int{0, 1, 9, -1, math.MinInt, math.MaxInt} {
			wanted := want
			if want == 0 {
				wanted = def
			}
			if got := param.Get(list, i, def); got != wanted {
				t.Errorf("P4.3: Get(%v, %d, %d) = %d, not %d", list, i, def, got, wanted)
			}
			if got := param.Get(nil, i, def); got != def {
				t.Errorf("P4.3: Get of none at %d, %d = %d", i, def, got)
			}
		}
		if got := param.Raw(nil, i); got != 0 {
			t.Errorf("P4.3: Raw of none at %d = %d", i, got)
		}
		if got := param.Raw([]int{}, i); got != 0 {
			t.Errorf("P4.3: Raw of none at %d = %d", i, got)
		}
	}
}

// What lies behind a list's end isn't of the list.
func TestGetAndRawLeaveSpareRoom(t *testing.T) {
	list := []int{1, 2, 3}[:1]
	if param.Raw(list, 1) != 0 || param.Get(list, 1, 9) != 9 {
		t.Errorf("P4.3: numbers behind the list's end are taken: %d, %d", param.Raw(list, 1), param.Get(list, 1, 9))
	}
}

func TestClip(t *testing.T) {
	for _, x := range []struct{ n, least, most, want int }{
		{5, 1, 9, 5}, {1, 1, 9, 1}, {9, 1, 9, 9}, {0, 1, 9, 1}, {10, 1, 9, 9}, {-5, 1, 9, 1},
		{5, 9, 1, 9}, {0, 9, 1, 9}, {99, 9, 1, 9}, {1, 9, 1, 9}, {9, 9, 1, 9}, {4, 4, 4, 4}, {3, 4, 4, 4}, {5, 4, 4, 4},
		{-5, -9, -1, -5}, {-10, -9, -1, -9}, {0, -9, -1, -1},
		{math.MinInt, 0, 9, 0}, {math.MaxInt, 0, 9, 9}, {0, math.MinInt, math.MaxInt, 0}, {0, math.MaxInt, math.MinInt, math.MaxInt},
		{math.MinInt, math.MinInt, math.MaxInt, math.MinInt}, {math.MaxInt, math.MinInt, math.MaxInt, math.MaxInt},
	} {
		if got := param.Clip(x.n, x.least, x.most); got != x.want {
			t.Errorf("P4.3: Clip(%d, %d, %d) = %d, not %d", x.n, x.least, x.most, got, x.want)
		}
	}
	for n := -4; n <= 4; n++ {
		for least := -4; least <= 4; least++ {
			for most := -4; most <= 4; most++ {
				want := n
				if want > most {
					want = most
				}
				if want < least {
					want = least
				}
				if got := param.Clip(n, least, most); got != want {
					t.Errorf("P4.3: Clip(%d, %d, %d) = %d, not %d", n, least, most, got, want)
				}
			}
		}
	}
}

func TestAnswersAreNewMemory(t *testing.T) {
	a := newAcc(t, "1;2;3")
	first, second := a.List(), a.List()
	first = first[:cap(first)]
	for i := range first {
		first[i] = 99
	}
	if want := []int{1, 2, 3}; !slices.Equal(second, want) || !slices.Equal(a.List(), want) || !slices.Equal(a.Clone().List(), want) {
		t.Errorf("P4.4: answers of List share memory: %v, %v", second, a.List())
	}
	feed(t, a, "4;5")
	if !slices.Equal(second, []int{1, 2, 3}) {
		t.Errorf("P4.4: what is taken shows in an answer: %v", second)
	}
	one, _ := param.Parse("1;2;3")
	two, _ := param.Parse("1;2;3")
	one = one[:cap(one)]
	for i := range one {
		one[i] = 99
	}
	if three, _ := param.Parse("1;2;3"); !slices.Equal(two, []int{1, 2, 3}) || !slices.Equal(three, two) {
		t.Errorf("P4.4: answers of Parse share memory: %v, %v", two, three)
	}
}

func TestListsStayAsTheyWere(t *testing.T) {
	room := []int{-1, 70000, 0, 7, 88, 99}
	for n := range len(room) + 1 {
		param.Format(room[:n]...)
		param.Get(room[:n], 0, 4)
		param.Raw(room[:n], 1)
	}
	long := make([]int, 50)
	for i := range long {
		long[i] = -i
	}
	param.Format(long...)
	if !slices.Equal(room, []int{-1, 70000, 0, 7, 88, 99}) || long[0] != 0 || long[49] != -49 {
		t.Errorf("P4.4: a list that was handed in is changed: %v, %v", room, long)
	}
}
