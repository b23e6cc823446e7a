package gate_test

import (
	"math"
	"slices"
	"testing"

	"phosphor/gate"
	"phosphor/parser"
	"phosphor/token"
)

// entry is a row of the document's table: of a control its id is its Code.
type entry struct {
	number int
	is     gate.Func
	name   string
	kind   int
	id     string
	level  int
}

var table = []entry{
	{1, gate.BEL, "BEL", token.Ctrl, "\x07", 1},
	{2, gate.ENQ, "ENQ", token.Ctrl, "\x05", 1},
	{3, gate.BS, "BS", token.Ctrl, "\x08", 1},
	{4, gate.HT, "HT", token.Ctrl, "\x09", 1},
	{5, gate.LF, "LF", token.Ctrl, "\x0A", 1},
	{6, gate.VT, "VT", token.Ctrl, "\x0B", 1},
	{7, gate.FF, "FF", token.Ctrl, "\x0C", 1},
	{8, gate.CR, "CR", token.Ctrl, "\x0D", 1},
	{9, gate.SO, "SO", token.Ctrl, "\x0E", 1},
	{10, gate.SI, "SI", token.Ctrl, "\x0F", 1},
	{11, gate.SUB, "SUB", token.Ctrl, "\x1A", 1},
	{12, gate.IND, "IND", token.Esc, "D", 1},
	{13, gate.NEL, "NEL", token.Esc, "E", 1},
	{14, gate.HTS, "HTS", token.Esc, "H", 1},
	{15, gate.RI, "RI", token.Esc, "M", 1},
	{16, gate.SS2, "SS2", token.Esc, "N", 2},
	{17, gate.SS3, "SS3", token.Esc, "O", 2},
	{18, gate.DECID, "DECID", token.Esc, "Z", 1},
	{19, gate.DECSC, "DECSC", token.Esc, "7", 1},
	{20, gate.DECRC, "DECRC", token.Esc, "8", 1},
	{21, gate.DECKPAM, "DECKPAM", token.Esc, "=", 1},
	{22, gate.DECKPNM, "DECKPNM", token.Esc, ">", 1},
	{23, gate.RIS, "RIS", token.Esc, "c", 1},
	{24, gate.DECBI, "DECBI", token.Esc, "6", 4},
	{25, gate.DECFI, "DECFI", token.Esc, "9", 4},
	{26, gate.LS2, "LS2", token.Esc, "n", 2},
	{27, gate.LS3, "LS3", token.Esc, "o", 2},
	{28, gate.LS1R, "LS1R", token.Esc, "~", 2},
	{29, gate.LS2R, "LS2R", token.Esc, "}", 2},
	{30, gate.LS3R, "LS3R", token.Esc, "|", 2},
	{31, gate.DECDHLT, "DECDHLT", token.Esc, "#3", 1},
	{32, gate.DECDHLB, "DECDHLB", token.Esc, "#4", 1},
	{33, gate.DECSWL, "DECSWL", token.Esc, "#5", 1},
	{34, gate.DECDWL, "DECDWL", token.Esc, "#6", 1},
	{35, gate.DECALN, "DECALN", token.Esc, "#8", 1},
	{36, gate.S7C1T, "S7C1T", token.Esc, " F", 2},
	{37, gate.S8C1T, "S8C1T", token.Esc, " G", 2},
	{38, gate.CUU, "CUU", token.Csi, "A", 1},
	{39, gate.CUD, "CUD", token.Csi, "B", 1},
	{40, gate.CUF, "CUF", token.Csi, "C", 1},
	{41, gate.CUB, "CUB", token.Csi, "D", 1},
	{42, gate.CNL, "CNL", token.Csi, "E", 5},
	{43, gate.CPL, "CPL", token.Csi, "F", 5},
	{44, gate.CHA, "CHA", token.Csi, "G", 5},
	{45, gate.CUP, "CUP", token.Csi, "H", 1},
	{46, gate.CHT, "CHT", token.Csi, "I", 5},
	{47, gate.ED, "ED", token.Csi, "J", 1},
	{48, gate.EL, "EL", token.Csi, "K", 1},
	{49, gate.IL, "IL", token.Csi, "L", 1},
	{50, gate.DL, "DL", token.Csi, "M", 1},
	{51, gate.DCH, "DCH", token.Csi, "P", 1},
	{52, gate.ICH, "ICH", token.Csi, "@", 2},
	{53, gate.SU, "SU", token.Csi, "S", 2},
	{54, gate.SD, "SD", token.Csi, "T", 2},
	{55, gate.NP, "NP", token.Csi, "U", 3},
	{56, gate.PP, "PP", token.Csi, "V", 3},
	{57, gate.ECH, "ECH", token.Csi, "X", 2},
	{58, gate.CBT, "CBT", token.Csi, "Z", 5},
	{59, gate.HPA, "HPA", token.Csi, "`", 5},
	{60, gate.HPR, "HPR", token.Csi, "a", 5},
	{61, gate.REP, "REP", token.Csi, "b", 5},
	{62, gate.DA1, "DA1", token.Csi, "c", 1},
	{63, gate.DA2, "DA2", token.Csi, ">c", 2},
	{64, gate.DA3, "DA3", token.Csi, "=c", 4},
	{65, gate.VPA, "VPA", token.Csi, "d", 5},
	{66, gate.VPR, "VPR", token.Csi, "e", 5},
	{67, gate.HVP, "HVP", token.Csi, "f", 1},
	{68, gate.TBC, "TBC", token.Csi, "g", 1},
	{69, gate.SM, "SM", token.Csi, "h", 1},
	{70, gate.RM, "RM", token.Csi, "l", 1},
	{71, gate.DECSET, "DECSET", token.Csi, "?h", 1},
	{72, gate.DECRST, "DECRST", token.Csi, "?l", 1},
	{73, gate.SGR, "SGR", token.Csi, "m", 1},
	{74, gate.DSR, "DSR", token.Csi, "n", 1},
	{75, gate.DECDSR, "DECDSR", token.Csi, "?n", 2},
	{76, gate.DECSTBM, "DECSTBM", token.Csi, "r", 1},
	{77, gate.DECSLRM, "DECSLRM", token.Csi, "s", 4},
	{78, gate.DECSED, "DECSED", token.Csi, "?J", 2},
	{79, gate.DECSEL, "DECSEL", token.Csi, "?K", 2},
	{80, gate.SL, "SL", token.Csi, " @", 5},
	{81, gate.SR, "SR", token.Csi, " A", 5},
	{82, gate.PPA, "PPA", token.Csi, " P", 3},
	{83, gate.PPR, "PPR", token.Csi, " Q", 3},
	{84, gate.PPB, "PPB", token.Csi, " R", 3},
	{85, gate.DECSTR, "DECSTR", token.Csi, "!p", 2},
	{86, gate.DECSCL, "DECSCL", token.Csi, "\"p", 1},
	{87, gate.DECSCA, "DECSCA", token.Csi, "\"q", 2},
	{88, gate.RQM, "RQM", token.Csi, "$p", 3},
	{89, gate.DECRQM, "DECRQM", token.Csi, "?$p", 3},
	{90, gate.DECCARA, "DECCARA", token.Csi, "$r", 4},
	{91, gate.DECRARA, "DECRARA", token.Csi, "$t", 4},
	{92, gate.DECCRA, "DECCRA", token.Csi, "$v", 4},
	{93, gate.DECFRA, "DECFRA", token.Csi, "$x", 4},
	{94, gate.DECERA, "DECERA", token.Csi, "$z", 4},
	{95, gate.DECSERA, "DECSERA", token.Csi, "${", 4},
	{96, gate.DECSACE, "DECSACE", token.Csi, "*x", 4},
	{97, gate.DECRQCRA, "DECRQCRA", token.Csi, "*y", 4},
	{98, gate.DECINVM, "DECINVM", token.Csi, "*z", 4},
	{99, gate.DECRQPSR, "DECRQPSR", token.Csi, "$w", 3},
	{100, gate.DECRQTSR, "DECRQTSR", token.Csi, "$u", 3},
	{101, gate.DECIC, "DECIC", token.Csi, "'}", 4},
	{102, gate.DECDC, "DECDC", token.Csi, "'~", 4},
	{103, gate.DECSSDT, "DECSSDT", token.Csi, "$~", 3},
	{104, gate.DECSASD, "DECSASD", token.Csi, "$}", 3},
	{105, gate.DECSCPP, "DECSCPP", token.Csi, "$|", 3},
	{106, gate.DECSLPP, "DECSLPP", token.Csi, "t", 3},
	{107, gate.DECRQSS, "DECRQSS", token.Dcs, "$q", 3},
	{108, gate.DECDMAC, "DECDMAC", token.Dcs, "!z", 4},
	{109, gate.DECUDK, "DECUDK", token.Dcs, "|", 2},
	{110, gate.DECRSTS, "DECRSTS", token.Dcs, "$p", 3},
	{111, gate.DECRSPS, "DECRSPS", token.Dcs, "$t", 3},
}

// levels are those that there are, and such as lie beyond them.
var levels = []int{math.MinInt, math.MinInt32, -256, -1, 0, 1, 2, 3, 4, 5, 6, 7, 255, 256, 257, 1 << 32, math.MaxInt}

// tokenOf is the token of an id: its Mark, its Inters, and its Code, in this order.
func tokenOf(kind int, id string) token.Token {
	t := token.Token{Kind: kind, Code: id[len(id)-1], Inters: id[:len(id)-1]}
	if t.Inters != "" && t.Inters[0] >= 0x3C {
		t.Mark, t.Inters = t.Inters[0], t.Inters[1:]
	}
	return t
}

// scs is what the document says of a token that is SCS: which of G0 to G3, whether of 96, the id, and from which level on.
func scs(t token.Token) (int, bool, string, int, bool) {
	if t.Kind != token.Esc || t.Mark != 0 || len(t.Inters) < 1 || len(t.Inters) > 2 || t.Code < 0x30 || t.Code > 0x7E {
		return 0, false, "", 0, false
	}
	id := t.Inters[1:] + string(rune(t.Code))
	switch t.Inters[0] {
	case '(':
		return 0, false, id, 1, true
	case ')':
		return 1, false, id, 1, true
	case '*':
		return 2, false, id, 2, true
	case '+':
		return 3, false, id, 2, true
	case '-':
		return 1, true, id, 3, true
	case '.':
		return 2, true, id, 3, true
	case '/':
		return 3, true, id, 3, true
	}
	return 0, false, "", 0, false
}

// known is the function that a token that can be is, and from which level on.
func known(t token.Token) (gate.Func, int) {
	if _, _, _, level, ok := scs(t); ok {
		return gate.SCS, level
	}
	id := t.Inters + string(rune(t.Code))
	if t.Mark != 0 {
		id = string(rune(t.Mark)) + id
	}
	for _, e := range table {
		if e.kind == t.Kind && e.id == id {
			return e.is, e.level
		}
	}
	return 0, 0
}

// everyInters are all Inters of up to so many bytes.
func everyInters(most int) []string {
	list := []string{""}
	for first := 0; most > 0; most-- {
		last := len(list)
		for _, s := range list[first:last] {
			for c := byte(0x20); c <= 0x2F; c++ {
				list = append(list, s+string(rune(c)))
			}
		}
		first = last
	}
	return list
}

// all goes through tokens of all kinds, with every Mark and Code, and Inters of up to two bytes in an Esc, else of one, and some more.
func all(yield func(token.Token) bool) {
	more := []string{"(% ", "((B", "##3", " $ ", "!$\"", "$$$", "*(+", "$$", "$*", " $", "''"}
	for c := 0; c <= 0xFF; c++ {
		for _, kind := range []int{token.Print, token.Ctrl} {
			if !yield(token.Token{Kind: kind, Code: byte(c)}) {
				return
			}
		}
	}
	for _, kind := range []int{token.Esc, token.Csi, token.Dcs} {
		marks, inters := []byte{0, '<', '=', '>', '?'}, everyInters(1)
		if kind == token.Esc {
			marks, inters = marks[:1], everyInters(2)
		}
		for _, mark := range marks {
			for _, s := range append(inters, more...) {
				for c := byte(0x30); c <= 0x7E; c++ {
					t := token.Token{Kind: kind, Mark: mark, Inters: s, Code: c}
					if token.Check(t) == 0 && !yield(t) {
						return
					}
				}
			}
		}
	}
}

// P23.1: what stands in the table is found, from its level on.
func TestFindKnown(t *testing.T) {
	for _, e := range table {
		x := tokenOf(e.kind, e.id)
		if token.Check(x) != 0 {
			t.Fatalf("%s: no token: %+v", e.name, x)
		}
		for _, level := range levels {
			f, ok := gate.Find(x, level)
			want := e.is
			if level < e.level {
				want = 0
			}
			if f != want || ok != (want != 0) {
				t.Errorf("Find(%s, %d) = %d, %v", e.name, level, f, ok)
			}
		}
	}
}

// P23.1: every other token is none, or is SCS.
func TestFindAll(t *testing.T) {
	found := map[gate.Func]int{}
	for x := range all {
		want, from := known(x)
		for level := -1; level <= 7; level++ {
			f, ok := gate.Find(x, level)
			there := want != 0 && level >= from
			if ok != there || there && f != want || !there && f != 0 {
				t.Fatalf("Find(%+v, %d) = %d, %v; not %d, %v", x, level, f, ok, want, there)
			}
		}
		if want != 0 {
			found[want]++
		}
	}
	if len(found) != gate.Count() || found[gate.SCS] != 7*17*0x4F {
		t.Errorf("found %d functions, %d of SCS", len(found), found[gate.SCS])
	}
}

// P23.1: kinds of tokens that are no functions.
func TestFindOtherKinds(t *testing.T) {
	for _, kind := range []int{0, token.Print, token.Osc, token.Sos, token.Pm, token.Apc, -1, 10, 255, 258, 1<<32 + 2, math.MinInt, math.MaxInt} {
		for _, e := range table {
			x := tokenOf(e.kind, e.id)
			x.Kind = kind
			if f, ok := gate.Find(x, 5); f != 0 || ok {
				t.Errorf("Find(%+v) = %d, %v", x, f, ok)
			}
		}
		x := token.Token{Kind: kind, Inters: "(", Code: 'B', Data: []byte("(B")}
		if f, ok := gate.Find(x, 5); f != 0 || ok {
			t.Errorf("Find(%+v) = %d, %v", x, f, ok)
		}
		if g, wide, id, ok := gate.Set(x); g != 0 || wide || id != "" || ok {
			t.Errorf("Set(%+v) = %d, %v, %q, %v", x, g, wide, id, ok)
		}
	}
}

// P23.1: numbers and data make no difference, and stay as they are.
func TestFindPassesOver(t *testing.T) {
	for _, e := range table {
		x := tokenOf(e.kind, e.id)
		if e.kind != token.Csi && e.kind != token.Dcs {
			continue
		}
		x.Params = []int{1, 0, 65535}
		if e.kind == token.Dcs {
			x.Data = []byte("p$z")
		}
		ahead := x.Copy()
		if f, ok := gate.Find(x, 5); f != e.is || !ok || !x.Same(ahead) {
			t.Errorf("Find(%+v) = %d, %v", x, f, ok)
		}
	}
}

// P23.1: tokens that can't be are taken, too.
func TestFindNoTokens(t *testing.T) {
	for _, x := range []token.Token{
		{},
		{Kind: token.Esc},
		{Kind: token.Csi},
		{Kind: token.Dcs},
		{Kind: token.Esc, Inters: "("},
		{Kind: token.Esc, Inters: "(", Code: 0x2F},
		{Kind: token.Esc, Inters: "(", Code: 0x7F},
		{Kind: token.Esc, Inters: "(", Code: 0xC2},
		{Kind: token.Esc, Inters: "(0", Code: 'B'},
		{Kind: token.Esc, Inters: "(\x1F", Code: 'B'},
		{Kind: token.Esc, Inters: "(%%", Code: '5'},
		{Kind: token.Esc, Inters: ",", Code: 'B'},
		{Kind: token.Esc, Code: '('},
		{Kind: token.Csi, Inters: "(", Code: 'B'},
		{Kind: token.Dcs, Inters: "(", Code: 'B'},
		{Kind: token.Csi, Code: 'A', Inters: "\xC3"},
		{Kind: token.Ctrl, Code: 0x87},
	} {
		if f, ok := gate.Find(x, 5); f != 0 || ok {
			t.Errorf("Find(%+v) = %d, %v", x, f, ok)
		}
		if g, wide, id, ok := gate.Set(x); g != 0 || wide || id != "" || ok {
			t.Errorf("Set(%+v) = %d, %v, %q, %v", x, g, wide, id, ok)
		}
	}
}

// P23.1: what a token designates, whatever the level; nothing of all others.
func TestSet(t *testing.T) {
	for x := range all {
		wantG, wantWide, wantId, _, wantOk := scs(x)
		g, wide, id, ok := gate.Set(x)
		if g != wantG || wide != wantWide || id != wantId || ok != wantOk {
			t.Fatalf("Set(%+v) = %d, %v, %q, %v", x, g, wide, id, ok)
		}
	}
}

// P23.1: the examples, as a parser reads them.
func TestExamples(t *testing.T) {
	for _, c := range []struct {
		stream string
		level  int
		want   gate.Func
	}{
		{"\x1b[?6h", 1, gate.DECSET},
		{"\x1b[1*z", 3, 0},
		{"\x1b[1*z", 4, gate.DECINVM},
		{"\x1b)0", 1, gate.SCS},
		{"\x1b[z", 5, 0},
		{"\x1b G", 2, gate.S8C1T},
		{"\x1b G", 1, 0},
		{"\x84", 1, gate.IND},
		{"\x9b1;2 @", 5, gate.SL},
		{"\x1b-A", 2, 0},
		{"\x1b-A", 3, gate.SCS},
		{"\x1bP1$tx\x1b\\", 3, gate.DECRSPS},
		{"\x07", 1, gate.BEL},
		{"\x01", 5, 0},
		{"a", 5, 0},
	} {
		tokens := parser.Split([]byte(c.stream))
		if len(tokens) != 1 {
			t.Fatalf("%q: %d tokens", c.stream, len(tokens))
		}
		if f, ok := gate.Find(tokens[0], c.level); f != c.want || ok != (c.want != 0) {
			t.Errorf("Find(%q, %d) = %d, %v", c.stream, c.level, f, ok)
		}
	}
	for stream, want := range map[string]struct {
		g    int
		wide bool
		id   string
	}{"\x1b)0": {1, false, "0"}, "\x1b(%5": {0, false, "%5"}, "\x1b.A": {2, true, "A"}, "\x1b+>": {3, false, ">"}} {
		g, wide, id, ok := gate.Set(parser.Split([]byte(stream))[0])
		if g != want.g || wide != want.wide || id != want.id || !ok {
			t.Errorf("Set(%q) = %d, %v, %q, %v", stream, g, wide, id, ok)
		}
	}
}

// P23.2: what is there at a level is there, as the same, at every greater one.
func TestLevelsRise(t *testing.T) {
	for x := range all {
		var ahead gate.Func
		for _, level := range levels {
			f, ok := gate.Find(x, level)
			if ahead != 0 && (f != ahead || !ok) {
				t.Fatalf("Find(%+v, %d) = %d, %v; %d below", x, level, f, ok, ahead)
			}
			ahead = f
		}
	}
}

// P23.3: names and levels, and how many there are.
func TestNames(t *testing.T) {
	if gate.Count() != 112 || len(table) != 111 {
		t.Fatalf("Count = %d", gate.Count())
	}
	seen := []string{"SCS"}
	for i, e := range table {
		if e.number != i+1 || int(e.is) != e.number {
			t.Errorf("%s = %d, not %d", e.name, e.is, e.number)
		}
		if e.is.Name() != e.name || e.is.Level() != e.level {
			t.Errorf("%d: %q, %d; not %q, %d", e.number, e.is.Name(), e.is.Level(), e.name, e.level)
		}
		if slices.Contains(seen, e.is.Name()) {
			t.Errorf("%q twice", e.name)
		}
		seen = append(seen, e.is.Name())
	}
	if gate.SCS != 112 || gate.SCS.Name() != "SCS" || gate.SCS.Level() != 1 {
		t.Errorf("SCS = %d, %q, %d", gate.SCS, gate.SCS.Name(), gate.SCS.Level())
	}
}

// P23.3: a number that is none of a function.
func TestNoNames(t *testing.T) {
	for _, f := range []gate.Func{math.MinInt, -113, -1, 0, 113, 114, 255, 256, 257, 1<<32 + 1, math.MaxInt} {
		if f.Name() != "" || f.Level() != 0 {
			t.Errorf("%d: %q, %d", f, f.Name(), f.Level())
		}
	}
}
