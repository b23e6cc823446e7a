package iso_test

import (
	"math"
	"math/rand"
	"strings"
	"testing"

	"phosphor/charset"
	"phosphor/iso"
)

// far are numbers that would come round to one of the four, if they were cut short.
var far = []int{math.MinInt, math.MinInt + 1, math.MinInt32, -1 << 32, -1<<32 + 2, -256, 255, 256, 257, 258, 259, 65538, math.MaxInt32, 1 << 32, 1<<32 + 1, 1<<32 + 2, 1<<32 + 3, math.MaxInt - 1, math.MaxInt}

// numbers are all about the four, and far ones.
var numbers = append([]int{-3, -2, -1, 0, 1, 2, 3, 4, 5, 6, 7}, far...)

// apart is a state whose four sets are unlike one another.
func apart() iso.State {
	return iso.State{G: [4]int{charset.Ascii, charset.Special, charset.German, charset.Latin}, GL: 0, GR: 2}
}

// states are such as calls answer, and such as no call answers.
func states() []iso.State {
	list := []iso.State{{}, iso.New(), apart()}
	for _, g := range [][4]int{
		{charset.Latin, charset.British, charset.Technical, charset.Swiss},
		{charset.Supplemental, charset.Latin, charset.Latin, charset.Latin},
		{0, -1, 18, math.MaxInt},
		{math.MinInt, charset.Latin, charset.Ascii, 1<<32 + charset.Latin},
	} {
		list = append(list, iso.State{G: g, GL: 1, GR: 3, Single: 2})
	}
	for _, gl := range []int{math.MinInt, -1, 0, 1, 2, 3, 4, 1 << 32, math.MaxInt} {
		for _, gr := range []int{math.MinInt, -1, 0, 1, 2, 3, 4, 1 << 32, math.MaxInt} {
			for _, single := range []int{math.MinInt, -1, 0, 1, 2, 3, 4, 1<<32 + 2, math.MaxInt} {
				list = append(list, iso.State{G: apart().G, GL: gl, GR: gr, Single: single})
			}
		}
	}
	return list
}

// ids are those of some sets, and some of none.
var ids = []string{"B", "0", "2", ">", "%5", "A", "4", "5", "C", "R", "f", "9", "Q", "K", "Y", "`", "E", "6", "%6", "Z", "7", "H", "=", "", "%", "%%", "%7", "AA", "BB", "B ", " ", "b", "\x00", "%5%5"}

func TestNew(t *testing.T) {
	want := iso.State{G: [4]int{charset.Ascii, charset.Ascii, charset.Supplemental, charset.Supplemental}, GL: 0, GR: 2, Single: 0}
	if got := iso.New(); got != want {
		t.Errorf("P10.1: New = %v", got)
	}
}

func TestDesignate(t *testing.T) {
	for _, s := range states() {
		for _, g := range numbers {
			for _, id := range ids {
				for _, wide := range []bool{false, true} {
					want := s
					set, ok := charset.Find(wide, id)
					switch {
					case !ok:
					case g == 1 || g == 2 || g == 3 || g == 0 && !wide:
						want.G[g] = set
					default:
						ok = false
					}
					if got, done := s.Designate(g, wide, id); got != want || done != ok {
						t.Fatalf("P10.1: %v: Designate(%d, %v, %q) = %v, %v, not %v, %v", s, g, wide, id, got, done, want, ok)
					}
				}
			}
		}
	}
}

func TestDesignateExamples(t *testing.T) {
	for _, x := range []struct {
		g    int
		wide bool
		id   string
		want [4]int
		ok   bool
	}{
		{1, false, "0", [4]int{1, 2, 4, 4}, true}, {0, false, "A", [4]int{6, 1, 4, 4}, true}, {0, true, "A", [4]int{1, 1, 4, 4}, false}, {1, true, "A", [4]int{1, 5, 4, 4}, true},
		{2, true, "A", [4]int{1, 1, 5, 4}, true}, {3, true, "A", [4]int{1, 1, 4, 5}, true}, {3, false, "%6", [4]int{1, 1, 4, 14}, true}, {2, false, "H", [4]int{1, 1, 16, 4}, true},
		{4, false, "B", [4]int{1, 1, 4, 4}, false}, {-1, false, "B", [4]int{1, 1, 4, 4}, false}, {2, false, "B", [4]int{1, 1, 1, 4}, true}, {2, true, "B", [4]int{1, 1, 4, 4}, false}, {2, false, "", [4]int{1, 1, 4, 4}, false},
	} {
		if s, ok := iso.New().Designate(x.g, x.wide, x.id); ok != x.ok || s != (iso.State{G: x.want, GR: 2}) {
			t.Errorf("P10.1: Designate(%d, %v, %q) = %v, %v", x.g, x.wide, x.id, s, ok)
		}
	}
}

func TestLeftRightOnce(t *testing.T) {
	for _, s := range states() {
		for _, g := range numbers {
			left, right, once := s, s, s
			switch g {
			case 0:
				left.GL = 0
			case 1:
				left.GL, right.GR = 1, 1
			case 2:
				left.GL, right.GR, once.Single = 2, 2, 2
			case 3:
				left.GL, right.GR, once.Single = 3, 3, 3
			}
			if got := s.Left(g); got != left {
				t.Fatalf("P10.1: %v: Left(%d) = %v, not %v", s, g, got, left)
			}
			if got := s.Right(g); got != right {
				t.Fatalf("P10.1: %v: Right(%d) = %v, not %v", s, g, got, right)
			}
			if got := s.Once(g); got != once {
				t.Fatalf("P10.1: %v: Once(%d) = %v, not %v", s, g, got, once)
			}
		}
	}
}

// meant is, by the document's words, which of the four a code means.
func meant(s iso.State, c byte) int {
	if s.Single == 2 || s.Single == 3 {
		return s.Single
	}
	n, none := s.GL, 0
	if c >= 0xA0 {
		n, none = s.GR, 2
	}
	if n < 0 || n > 3 {
		return none
	}
	return n
}

func TestMap(t *testing.T) {
	for _, s := range states() {
		for code := range 256 {
			c := byte(code)
			glyph, behind := rune(0), s
			if c >= 0x20 && c <= 0x7F || c >= 0xA0 {
				glyph = charset.Glyph(s.G[meant(s, c)], c)
				if s.Single == 2 || s.Single == 3 {
					behind.Single = 0
				}
			}
			if got, state := s.Map(c); got != glyph || state != behind {
				t.Fatalf("P10.2: %v: Map(%02X) = %04X, %v, not %04X, %v", s, code, got, state, glyph, behind)
			}
		}
	}
}

func TestMapExamples(t *testing.T) {
	first, _ := iso.New().Designate(1, false, "0")
	first = first.Left(1)
	single := first.Once(2)
	for _, x := range []struct {
		s     iso.State
		c     byte
		glyph rune
		then  iso.State
	}{
		{first, 0x71, 0x2500, first}, {single, 0x41, 0xC1, first}, {single, 0xC1, 0xC1, first}, {first, 0xC1, 0xC1, first},
		// Used up without a glyph; not used up by what is no code.
		{single, 0x7F, 0, first}, {single, 0xFF, 0, first}, {single, 0x24, 0xFFFD, first}, {single, 0x20, ' ', first}, {single, 0xA0, ' ', first},
		{single, 0x00, 0, single}, {single, 0x1F, 0, single}, {single, 0x80, 0, single}, {single, 0x9F, 0, single},
		{first, 0x1F, 0, first}, {first, 0x20, ' ', first}, {first, 0x7E, 0xB7, first}, {first, 0x7F, 0, first}, {first, 0x9F, 0, first}, {first, 0xA0, ' ', first}, {first, 0xFF, 0, first},
		// A set of 96 has glyphs at its ends, too.
		{apart().Right(3), 0xA0, 0xA0, apart().Right(3)}, {apart().Right(3), 0xFF, 0xFF, apart().Right(3)}, {apart().Left(3), 0x20, 0xA0, apart().Left(3)}, {apart().Left(3), 0x7F, 0xFF, apart().Left(3)},
		{apart().Once(3), 0x7F, 0xFF, apart()}, {apart().Once(3), 0x1F, 0, apart().Once(3)}, {apart().Once(3), 0xE9, 'é', apart()}, {apart(), 0xFB, 'ä', apart()}, {apart().Left(2).Once(3), 0x7B, 'û', apart().Left(2)},
	} {
		if glyph, then := x.s.Map(x.c); glyph != x.glyph || then != x.then {
			t.Errorf("P10.2: %v: Map(%02X) = %04X, %v, not %04X, %v", x.s, x.c, glyph, then, x.glyph, x.then)
		}
	}
	glyph, then := single.Map(0x41)
	second, last := then.Map(0x71)
	if glyph != 0xC1 || second != 0x2500 || last != first {
		t.Errorf("P10.2: Map(41), Map(71) = %04X, %04X, and then %v", glyph, second, last)
	}
}

// A number that is none counts as another one, but stays as it was.
func TestMapOfNumbersThatAreNone(t *testing.T) {
	for _, n := range append([]int{-1, 4, 5}, far...) {
		s := iso.State{G: apart().G, GL: n, GR: n, Single: n}
		if glyph, then := s.Map(0x7B); glyph != '{' || then != s {
			t.Errorf("P10.2: %v: Map(7B) = %04X, %v", s, glyph, then)
		}
		if glyph, then := s.Map(0xFB); glyph != 'ä' || then != s {
			t.Errorf("P10.2: %v: Map(FB) = %04X, %v", s, glyph, then)
		}
	}
	// G0 is one of the four, though nothing that is done to a state invokes it as GR.
	s := apart()
	s.GR, s.Single = 0, 1
	if glyph, then := s.Map(0xFB); glyph != '{' || then != s {
		t.Errorf("P10.2: %v: Map(FB) = %04X, %v", s, glyph, then)
	}
}

func TestReport(t *testing.T) {
	for _, s := range states() {
		gl, gr, size, text := s.Report()
		single := s
		single.Single = 0
		wantSize, wantText := byte(0x40), ""
		for g, worth := range [4]byte{1, 2, 4, 8} {
			id, wide := charset.Id(s.G[g])
			wantText += id
			if wide {
				wantSize += worth
			}
		}
		if gl != meant(single, 0x20) || gr != meant(single, 0xA0) || size != wantSize || text != wantText {
			t.Fatalf("P10.3: %v: Report = %d, %d, %02X, %q", s, gl, gr, size, text)
		}
	}
}

func TestReportExamples(t *testing.T) {
	for _, x := range []struct {
		s      iso.State
		gl, gr int
		size   byte
		ids    string
	}{
		{iso.New(), 0, 2, 0x40, "BB%5%5"},
		{iso.New().Once(3), 0, 2, 0x40, "BB%5%5"},
		{apart().Left(1).Right(3), 1, 3, 0x48, "B0KA"},
		{iso.State{G: [4]int{charset.Latin, charset.Latin, charset.Latin, charset.Latin}, GL: 3, GR: 1}, 3, 1, 0x4F, "AAAA"},
		{iso.State{G: [4]int{charset.British, charset.Latin, charset.Norwegian, charset.Portuguese}, GL: 2, GR: 1}, 2, 1, 0x42, "AA`%6"},
		{iso.State{G: [4]int{charset.Special, charset.Finnish, charset.Latin, charset.Swedish}, GL: -1, GR: 4}, 0, 2, 0x44, "05A7"},
		{iso.State{GL: 4, GR: 0}, 0, 0, 0x40, ""},
	} {
		if gl, gr, size, text := x.s.Report(); gl != x.gl || gr != x.gr || size != x.size || text != x.ids {
			t.Errorf("P10.3: %v: Report = %d, %d, %02X, %q", x.s, gl, gr, size, text)
		}
	}
}

// cuts are all ways in which a text is four ids, each % and one more byte, or one byte.
func cuts(text string) [][4]string {
	var list [][4]string
	for lengths := range 16 {
		var cut [4]string
		rest, ok := text, true
		for g := range cut {
			n := 1 + lengths>>g&1
			if len(rest) < n || (n == 2) != strings.HasPrefix(rest, "%") {
				ok = false
				break
			}
			cut[g], rest = rest[:n], rest[n:]
		}
		if ok && rest == "" {
			list = append(list, cut)
		}
	}
	return list
}

// restored is, by the document's words, what Restore answers.
func restored(s iso.State, gl, gr int, size byte, text string) (iso.State, bool) {
	list := cuts(text)
	if gl < 0 || gl > 3 || gr < 1 || gr > 3 || size < 0x40 || size > 0x4F || len(list) != 1 {
		return s, false
	}
	told := s
	told.GL, told.GR = gl, gr
	for g, worth := range [4]byte{1, 2, 4, 8} {
		wide := size&worth != 0
		set, ok := charset.Find(wide, list[0][g])
		if !ok || g == 0 && wide {
			return s, false
		}
		told.G[g] = set
	}
	return told, true
}

func checkRestore(t *testing.T, s iso.State, gl, gr int, size byte, text string) {
	t.Helper()
	want, ok := restored(s, gl, gr, size, text)
	if got, done := s.Restore(gl, gr, size, text); got != want || done != ok {
		t.Fatalf("P10.3: %v: Restore(%d, %d, %02X, %q) = %v, %v, not %v, %v", s, gl, gr, size, text, got, done, want, ok)
	}
}

func TestRestoreOfEveryNumber(t *testing.T) {
	for _, s := range states() {
		for _, gl := range numbers {
			for _, gr := range numbers {
				checkRestore(t, s, gl, gr, 0x40, "0K%5=")
				checkRestore(t, s, gl, gr, 0x4A, "0AKA")
			}
		}
	}
	for _, s := range []iso.State{{}, iso.New(), apart().Once(3), {GL: 7, GR: -7, Single: 7}} {
		for size := range 256 {
			for _, text := range []string{"AAAA", "BAAA", "BB%5%5", "ABBB", "BABA", "AAAB", "BBAA", "BBBA", ""} {
				checkRestore(t, s, 1, 3, byte(size), text)
			}
		}
	}
}

func TestRestoreOfShortTexts(t *testing.T) {
	list := []string{""}
	for done, length := 0, 0; length < 6; length++ {
		end := len(list)
		for _, text := range list[done:end] {
			for _, c := range []string{"A", "B", "5", "%"} {
				list = append(list, text+c)
			}
		}
		done = end
	}
	for _, text := range append(list, "%5%5%5%5", "%5%5%5%5%5", "%5%5%5%", "%6%5%6%5", "%5%5%5B%", "%%5%5%5%") {
		for size := range 16 {
			checkRestore(t, iso.New().Once(2), 2, 1, byte(0x40+size), text)
		}
	}
}

func TestRestoreOfEveryByte(t *testing.T) {
	for c := range 256 {
		b := string([]byte{byte(c)})
		for _, text := range []string{b + "BBB", "B" + b + "BB", "BB" + b + "B", "BBB" + b, "BBBB" + b, b + "BBBB", "%" + b + "BBB", "BBB%" + b, b + b + b + b, "BB" + b} {
			checkRestore(t, apart(), 0, 1, 0x40, text)
			checkRestore(t, apart(), 0, 1, 0x4E, text)
		}
	}
}

func TestRestoreExamples(t *testing.T) {
	before := iso.State{G: apart().G, GL: 1, GR: 3, Single: 3}
	for _, x := range []struct {
		gl, gr int
		size   byte
		ids    string
		want   iso.State
		ok     bool
	}{
		{0, 2, 0x40, "BB%5%5", iso.State{G: [4]int{1, 1, 4, 4}, GL: 0, GR: 2, Single: 3}, true},
		{3, 1, 0x4E, "AAAA", iso.State{G: [4]int{6, 5, 5, 5}, GL: 3, GR: 1, Single: 3}, true},
		// Other ids than those that are told designate, too.
		{2, 3, 0x40, "2EfQ", iso.State{G: [4]int{2, 13, 9, 10}, GL: 2, GR: 3, Single: 3}, true},
		{0, 0, 0x40, "BB%5%5", before, false}, {4, 2, 0x40, "BB%5%5", before, false}, {-1, 2, 0x40, "BB%5%5", before, false}, {0, 4, 0x40, "BB%5%5", before, false},
		{0, 2, 0x3F, "BB%5%5", before, false}, {0, 2, 0x50, "BB%5%5", before, false}, {0, 2, 0, "BB%5%5", before, false}, {0, 2, 0xC0, "BB%5%5", before, false}, {0, 2, 0x41, "AB%5%5", before, false},
		{0, 2, 0x42, "BB%5%5", before, false}, {0, 2, 0x40, "BB%5", before, false}, {0, 2, 0x40, "BB%5%", before, false}, {0, 2, 0x40, "BB%5%5B", before, false}, {0, 2, 0x40, "", before, false}, {0, 2, 0x40, "BB%5x", before, false},
		{0, 2, 0x40, "%BB%5%5", before, false}, {0, 2, 0x40, "B B%5%5", before, false},
	} {
		if got, ok := before.Restore(x.gl, x.gr, x.size, x.ids); got != x.want || ok != x.ok {
			t.Errorf("P10.3: Restore(%d, %d, %02X, %q) = %v, %v", x.gl, x.gr, x.size, x.ids, got, ok)
		}
	}
}

// What any calls, one behind the other, make of a state is told, and brought back in any other one.
func TestReportIsRestored(t *testing.T) {
	rnd := rand.New(rand.NewSource(103))
	others := states()
	s := iso.New()
	for step := range 20000 {
		g := rnd.Intn(6) - 1
		switch rnd.Intn(6) {
		case 0:
			s = s.Left(g)
		case 1:
			s = s.Right(g)
		case 2:
			s = s.Once(g)
		case 3:
			_, s = s.Map(byte(rnd.Intn(256)))
		default:
			s, _ = s.Designate(g, rnd.Intn(3) == 0, ids[rnd.Intn(len(ids))])
		}
		into := others[rnd.Intn(len(others))]
		want := s
		want.Single = into.Single
		if got, ok := into.Restore(s.Report()); !ok || got != want {
			t.Fatalf("P10.3: step %d: the report of %v, restored in %v: %v, %v", step, s, into, got, ok)
		}
	}
}
