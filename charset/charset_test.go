package charset_test

import (
	"math"
	"strconv"
	"strings"
	"testing"

	"phosphor/charset"
)

// others are numbers that are no sets.
var others = []int{
	math.MinInt, math.MinInt + 1, math.MinInt32, -1 << 32, -1<<32 + 1, -256, -255, -17, -16, -6, -2, -1, 0,
	18, 19, 32, 33, 64, 65, 255, 256, 257, 261, 273, 65537, math.MaxInt32, 1 << 32, 1<<32 + 1, 1<<32 + 5, math.MaxInt - 1, math.MaxInt,
}

// row is a line of the document's table, and what it says of the set's glyphs: those from a code on, one behind the other, and those of single codes, each behind its code.
type row struct {
	number   int
	name     string
	wide     bool
	id       string
	besides  []string
	national bool
	upper    bool // it is the code and 80, else the code
	from     int
	run      string
	single   string
}

var table = []row{
	{number: 1, name: "ascii", id: "B"},
	{number: 2, name: "special", id: "0", besides: []string{"2"}, from: 0x5F, run: "0020 25C6 2592 2409 240C 240D 240A 00B0 00B1 2424 240B 2518 2510 250C 2514 253C 23BA 23BB 2500 23BC 23BD 251C 2524 2534 252C 2502 2264 2265 03C0 2260 00A3 00B7"},
	{number: 3, name: "technical", id: ">", from: 0x21, run: "23B7 250C 2500 2320 2321 2502 23A1 23A3 23A4 23A6 239B 239D 239E 23A0 23A8 23AC FFFD FFFD FFFD FFFD FFFD FFFD FFFD FFFD FFFD FFFD FFFD 2264 2260 2265 222B 2234 221D 221E 00F7 0394 2207 03A6 0393 223C 2243 0398 00D7 039B 21D4 21D2 2261 03A0 03A8 FFFD 03A3 FFFD FFFD 221A 03A9 039E 03A5 2282 2283 2229 222A 2227 2228 00AC 03B1 03B2 03C7 03B4 03B5 03C6 03B3 03B7 03B9 03B8 03BA 03BB FFFD 03BD 2202 03C0 03C8 03C1 03C3 03C4 FFFD 0192 03C9 03BE 03C5 03B6 2190 2191 2192 2193"},
	{number: 4, name: "supplemental", id: "%5", upper: true, single: "24 FFFD, 26 FFFD, 28 00A4, 2C FFFD, 2D FFFD, 2E FFFD, 2F FFFD, 34 FFFD, 38 FFFD, 3E FFFD, 50 FFFD, 57 0152, 5D 0178, 5E FFFD, 70 FFFD, 77 0153, 7D 00FF, 7E FFFD"},
	{number: 5, name: "latin", wide: true, id: "A", upper: true},
	{number: 6, name: "british", id: "A", national: true, single: "23 00A3"},
	{number: 7, name: "dutch", id: "4", national: true, single: "23 00A3, 40 00BE, 5B 0133, 5C 00BD, 5D 007C, 7B 00A8, 7C 0192, 7D 00BC, 7E 00B4"},
	{number: 8, name: "finnish", id: "5", besides: []string{"C"}, national: true, single: "5B 00C4, 5C 00D6, 5D 00C5, 5E 00DC, 60 00E9, 7B 00E4, 7C 00F6, 7D 00E5, 7E 00FC"},
	{number: 9, name: "french", id: "R", besides: []string{"f"}, national: true, single: "23 00A3, 40 00E0, 5B 00B0, 5C 00E7, 5D 00A7, 7B 00E9, 7C 00F9, 7D 00E8, 7E 00A8"},
	{number: 10, name: "canadian", id: "9", besides: []string{"Q"}, national: true, single: "40 00E0, 5B 00E2, 5C 00E7, 5D 00EA, 5E 00EE, 60 00F4, 7B 00E9, 7C 00F9, 7D 00E8, 7E 00FB"},
	{number: 11, name: "german", id: "K", national: true, single: "40 00A7, 5B 00C4, 5C 00D6, 5D 00DC, 7B 00E4, 7C 00F6, 7D 00FC, 7E 00DF"},
	{number: 12, name: "italian", id: "Y", national: true, single: "23 00A3, 40 00A7, 5B 00B0, 5C 00E7, 5D 00E9, 60 00F9, 7B 00E0, 7C 00F2, 7D 00E8, 7E 00EC"},
	{number: 13, name: "norwegian", id: "`", besides: []string{"E", "6"}, national: true, single: "40 00C4, 5B 00C6, 5C 00D8, 5D 00C5, 5E 00DC, 60 00E4, 7B 00E6, 7C 00F8, 7D 00E5, 7E 00FC"},
	{number: 14, name: "portuguese", id: "%6", national: true, single: "5B 00C3, 5C 00C7, 5D 00D5, 7B 00E3, 7C 00E7, 7D 00F5"},
	{number: 15, name: "spanish", id: "Z", national: true, single: "23 00A3, 40 00A7, 5B 00A1, 5C 00D1, 5D 00BF, 7B 00B0, 7C 00F1, 7D 00E7"},
	{number: 16, name: "swedish", id: "7", besides: []string{"H"}, national: true, single: "40 00C9, 5B 00C4, 5C 00D6, 5D 00C5, 5E 00DC, 60 00E9, 7B 00E4, 7C 00F6, 7D 00E5, 7E 00FC"},
	{number: 17, name: "swiss", id: "=", national: true, single: "23 00F9, 40 00E0, 5B 00E9, 5C 00E7, 5D 00EA, 5E 00EE, 5F 00E8, 60 00F4, 7B 00E4, 7C 00F6, 7D 00FC, 7E 00FB"},
}

// number reads a hexadecimal one.
func number(t *testing.T, digits string) int {
	t.Helper()
	n, err := strconv.ParseUint(digits, 16, 16)
	if err != nil {
		t.Fatalf("%q is no hexadecimal number", digits)
	}
	return int(n)
}

// glyphs are those of the codes 00 to 7F.
func (r row) glyphs(t *testing.T) [128]rune {
	t.Helper()
	var list [128]rune
	for code := 0x21; code <= 0x7E; code++ {
		list[code] = rune(code)
		if r.upper {
			list[code] += 0x80
		}
	}
	list[0x20] = 0x20
	if r.wide {
		list[0x20], list[0x7F] = 0xA0, 0xFF
	}
	for i, digits := range strings.Fields(r.run) {
		list[r.from+i] = rune(number(t, digits))
	}
	for _, pair := range strings.Split(r.single, ", ") {
		if code, glyph, ok := strings.Cut(pair, " "); ok {
			list[number(t, code)] = rune(number(t, glyph))
		}
	}
	return list
}

func TestGlyphOfEveryCode(t *testing.T) {
	for _, r := range table {
		glyphs := r.glyphs(t)
		for code := range 256 {
			if got, want := charset.Glyph(r.number, byte(code)), glyphs[code%128]; got != want {
				t.Errorf("P9.1: Glyph(%s, %02X) = %04X, not %04X", r.name, code, got, want)
			}
		}
	}
}

func TestGlyphOfNoSet(t *testing.T) {
	for _, set := range others {
		for code := range 256 {
			if got := charset.Glyph(set, byte(code)); got != 0 {
				t.Fatalf("P9.1: Glyph(%d, %02X) = %04X", set, code, got)
			}
		}
	}
}

func TestGlyphExamples(t *testing.T) {
	for _, x := range []struct {
		set  int
		code byte
		want rune
	}{
		{charset.Special, 0x71, 0x2500}, {charset.German, 0x7E, 0x00DF}, {charset.Ascii, 0xC1, 0x41}, {charset.Ascii, 0x7F, 0}, {charset.Latin, 0x7F, 0x00FF},
		// The first and the last code, those beside them, and these with the highest bit.
		{charset.Ascii, 0x00, 0}, {charset.Ascii, 0x1F, 0}, {charset.Ascii, 0x20, ' '}, {charset.Ascii, 0x21, '!'}, {charset.Ascii, 0x7E, '~'},
		{charset.Ascii, 0x80, 0}, {charset.Ascii, 0x9F, 0}, {charset.Ascii, 0xA0, ' '}, {charset.Ascii, 0xA1, '!'}, {charset.Ascii, 0xFE, '~'}, {charset.Ascii, 0xFF, 0},
		{charset.Latin, 0x1F, 0}, {charset.Latin, 0x20, 0xA0}, {charset.Latin, 0x21, 0xA1}, {charset.Latin, 0x9F, 0}, {charset.Latin, 0xA0, 0xA0}, {charset.Latin, 0xFF, 0xFF},
		{charset.Supplemental, 0x20, ' '}, {charset.Supplemental, 0x21, 0xA1}, {charset.Supplemental, 0x7D, 0xFF}, {charset.Supplemental, 0x7E, 0xFFFD},
		{charset.Supplemental, 0x7F, 0}, {charset.Supplemental, 0xA0, ' '}, {charset.Supplemental, 0xA8, 0xA4}, {charset.Supplemental, 0xFF, 0},
		{charset.Special, 0x20, ' '}, {charset.Special, 0x5E, '^'}, {charset.Special, 0x5F, ' '}, {charset.Special, 0x60, 0x25C6}, {charset.Special, 0x7E, 0xB7}, {charset.Special, 0x7F, 0},
		{charset.Technical, 0x20, ' '}, {charset.Technical, 0x21, 0x23B7}, {charset.Technical, 0x31, 0xFFFD}, {charset.Technical, 0x7E, 0x2193}, {charset.Technical, 0x7F, 0}, {charset.Technical, 0xFE, 0x2193},
		{charset.French, 0x40, 'à'}, {charset.Dutch, 0x5D, '|'}, {charset.Portuguese, 0x7E, '~'}, {charset.Swiss, 0x5F, 'è'}, {charset.British, 0xA3, '£'}, {charset.Spanish, 0x20, ' '}, {charset.Spanish, 0x7F, 0},
	} {
		if got := charset.Glyph(x.set, x.code); got != x.want {
			t.Errorf("P9.1: Glyph(%d, %02X) = %04X, not %04X", x.set, x.code, got, x.want)
		}
	}
}

// ask is what Find is asked for.
type ask struct {
	wide bool
	id   string
}

// answers are all that Find has a set for.
func answers() map[ask]int {
	sets := map[ask]int{}
	for _, r := range table {
		sets[ask{r.wide, r.id}] = r.number
		for _, id := range r.besides {
			sets[ask{r.wide, id}] = r.number
		}
	}
	return sets
}

func TestFind(t *testing.T) {
	sets := answers()
	if len(sets) != 24 {
		t.Fatalf("%d ids", len(sets))
	}
	var ids []string
	for first := range 256 {
		one := string([]byte{byte(first)})
		ids = append(ids, one)
		for second := range 256 {
			ids = append(ids, one+string([]byte{byte(second)}))
		}
	}
	for known := range sets {
		for _, more := range []string{" ", "\x00", ";", "%", "5", "B", "A", known.id} {
			ids = append(ids, known.id+more, more+known.id, known.id+more+known.id)
		}
	}
	ids = append(ids, "", "%%5", "%5%5", "0 2", "` E 6", "` E", "E6", "BB%5%5", "ascii", strings.Repeat("B", 5000), "\u00e9", "\uff22")
	for _, id := range ids {
		for _, wide := range []bool{false, true} {
			want, known := sets[ask{wide, id}]
			if set, ok := charset.Find(wide, id); set != want || ok != known {
				t.Errorf("P9.2: Find(%v, %q) = %d, %v, not %d, %v", wide, id, set, ok, want, known)
			}
		}
	}
}

func TestFindExamples(t *testing.T) {
	for _, x := range []struct {
		wide bool
		id   string
		set  int
		ok   bool
	}{
		{false, "A", charset.British, true}, {true, "A", charset.Latin, true}, {false, "%5", charset.Supplemental, true}, {false, "", 0, false}, {true, "", 0, false},
		{true, "B", 0, false}, {false, "2", charset.Special, true}, {true, "2", 0, false}, {false, "f", charset.French, true}, {false, "F", 0, false}, {false, "%", 0, false},
		{false, "6", charset.Norwegian, true}, {false, "%6", charset.Portuguese, true}, {false, "E", charset.Norwegian, true}, {false, "5", charset.Finnish, true}, {true, "%5", 0, false},
	} {
		if set, ok := charset.Find(x.wide, x.id); set != x.set || ok != x.ok {
			t.Errorf("P9.2: Find(%v, %q) = %d, %v, not %d, %v", x.wide, x.id, set, ok, x.set, x.ok)
		}
	}
}

func TestId(t *testing.T) {
	for _, r := range table {
		id, wide := charset.Id(r.number)
		if id != r.id || wide != r.wide {
			t.Errorf("P9.2: Id(%s) = %q, %v", r.name, id, wide)
		}
		if set, ok := charset.Find(wide, id); set != r.number || !ok {
			t.Errorf("P9.2: the id of %s finds %d, %v", r.name, set, ok)
		}
	}
	for _, set := range others {
		if id, wide := charset.Id(set); id != "" || wide {
			t.Errorf("P9.2: Id(%d) = %q, %v", set, id, wide)
		}
	}
}

func TestNationalSetsPartFromAscii(t *testing.T) {
	const codes = "\x23\x40\x5B\x5C\x5D\x5E\x5F\x60\x7B\x7C\x7D\x7E"
	parted := ""
	for code := range 128 {
		ascii := charset.Glyph(charset.Ascii, byte(code))
		for set := charset.British; set <= charset.Swiss; set++ {
			if charset.Glyph(set, byte(code)) == ascii {
				continue
			}
			if !strings.Contains(codes, string(rune(code))) {
				t.Errorf("P9.3: set %d parts from Ascii at %02X", set, code)
			} else if !strings.HasSuffix(parted, string(rune(code))) {
				parted += string(rune(code))
			}
		}
	}
	if parted != codes {
		t.Errorf("P9.3: national sets part from Ascii at %q, not at %q", parted, codes)
	}
	for set := charset.British; set <= charset.Swiss; set++ {
		alike := 0
		for code := range 128 {
			if charset.Glyph(set, byte(code)) == charset.Glyph(charset.Ascii, byte(code)) {
				alike++
			}
		}
		if alike == 128 {
			t.Errorf("P9.3: set %d is as Ascii", set)
		}
	}
}

func TestSetsAndNames(t *testing.T) {
	if charset.Sets() != 17 || charset.Sets() != len(table) {
		t.Errorf("P9.4: Sets = %d", charset.Sets())
	}
	for _, r := range table {
		if name := charset.Name(r.number); name != r.name {
			t.Errorf("P9.4: Name(%d) = %q, not %q", r.number, name, r.name)
		}
		if national := charset.National(r.number); national != r.national {
			t.Errorf("P9.4: National(%s) = %v", r.name, national)
		}
	}
	for _, set := range others {
		if name := charset.Name(set); name != "" {
			t.Errorf("P9.4: Name(%d) = %q", set, name)
		}
		if charset.National(set) {
			t.Errorf("P9.4: National(%d)", set)
		}
	}
}

func TestNumbersOfSets(t *testing.T) {
	for i, set := range []int{
		charset.Ascii, charset.Special, charset.Technical, charset.Supplemental, charset.Latin, charset.British, charset.Dutch, charset.Finnish, charset.French,
		charset.Canadian, charset.German, charset.Italian, charset.Norwegian, charset.Portuguese, charset.Spanish, charset.Swedish, charset.Swiss,
	} {
		if set != i+1 {
			t.Errorf("P9.4: the set in the table's line %d is number %d", i+1, set)
		}
	}
}
