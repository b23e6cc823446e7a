package term_test

import (
	"bytes"
	"fmt"
	"math"
	"math/rand"
	"strings"
	"testing"

	"phosphor/api"
	"phosphor/book"
	"phosphor/curs"
	"phosphor/keys"
	"phosphor/line"
	"phosphor/page"
	"phosphor/parser"
	"phosphor/state"
	"phosphor/term"
)

// glyphsOf are a page's rows, without the blanks at their ends, and with a slash between two.
func glyphsOf(p *page.Page) string {
	var rows []string
	for row := range p.Rows() {
		var text strings.Builder
		for _, c := range p.Line(row).Cells {
			text.WriteRune(c.Glyph)
		}
		rows = append(rows, strings.TrimRight(text.String(), " "))
	}
	return strings.Join(rows, "/")
}

func TestNew(t *testing.T) {
	for _, size := range [][3]int{{1, 1, 1}, {24, 80, 3}, {500, 500, 16}, {2, 20, 1}} {
		u := fresh(t, size[0], size[1], size[2])
		if u.Core() != state.New(size[0], size[1], size[2]) || !u.Book().Same(book.New(size[2], size[0], size[1])) {
			t.Errorf("New%v: %+v", size, u.Core())
		}
		saved, is := u.Saved()
		if u.Aside() != curs.New() || is || saved != (curs.Cursor{}) || !u.Idle() {
			t.Errorf("New%v: aside %+v, saved %+v, %v", size, u.Aside(), saved, is)
		}
		if u.Macros().Space() != api.MaxMacroSpace || u.Keys().Space() != api.MaxKeySpace || u.Keys().Locked() {
			t.Errorf("New%v: macros or keys", size)
		}
	}
	if got := fmt.Sprint(fresh(t, 1, 20, 1).Tabs()); got != "[8 16]" {
		t.Errorf("stops %s", got)
	}
	far := []int{math.MinInt, math.MinInt32, -1, 0, 501, 1 << 32, 1<<32 + 1, math.MaxInt}
	for _, n := range append(far, 17) {
		if u, e := term.New(2, 2, n); u != nil || e != api.ErrArg {
			t.Errorf("New(2, 2, %d) = %v, %d", n, u, e)
		}
	}
	for _, n := range far {
		if u, e := term.New(n, 2, 2); u != nil || e != api.ErrArg {
			t.Errorf("New(%d, 2, 2) = %v, %d", n, u, e)
		}
		if u, e := term.New(2, n, 2); u != nil || e != api.ErrArg {
			t.Errorf("New(2, %d, 2) = %v, %d", n, u, e)
		}
	}
}

// P24.1: nothing comes of no bytes, and what is fed stays as it is.
func TestFeedNothing(t *testing.T) {
	u := fresh(t, 2, 4, 1)
	for _, b := range [][]byte{nil, {}, {0}, {0x7F}, {0x18}} {
		if got := u.Feed(b); len(got) != 0 || !u.Same(fresh(t, 2, 4, 1)) {
			t.Errorf("Feed(%q) = %q", b, got)
		}
	}
	stream := []byte("ab\x1b[6n\x1bP1!zxy\x1b\\\x1bP|17/41\x1b\\")
	fed := append(bytes.Clone(stream), "spare"...)
	u.Feed(fed[:len(stream)])
	if string(fed) != string(stream)+"spare" {
		t.Errorf("fed bytes became %q", fed)
	}
	// Nor is it kept.
	for i := range fed {
		fed[i] = 'z'
	}
	u.Feed([]byte("\x1b[1*z"))
	if got := shown(u); got != "abxy/ @0,3w" {
		t.Errorf("shown %q", got)
	}
	if text, _ := u.Keys().Get(17); text != "A" {
		t.Errorf("F6 is %q", text)
	}
}

// P24.1: keys are told by the modes, the level, the controls, and the texts; and change nothing.
func TestKey(t *testing.T) {
	up := keys.Event{Kind: keys.Up}
	six := keys.Event{Kind: keys.F, Code: 6, Shift: true}
	pad := keys.Event{Kind: keys.Pad, Code: '5'}
	for _, c := range []struct {
		in   string
		e    keys.Event
		want string
	}{
		{"", up, "␛[A"},
		{"␛[?1h", up, "␛OA"},
		{"␛[?1h␛[!p", up, "␛[A"},
		{"␛ G", up, "\x9bA"},
		{"␛ G␛[?1h", up, "\x8fA"},
		{"", six, ""},
		{"␛P|17/4142␛\\", six, "AB"},
		{"␛P|17/4142␛\\␛c", six, ""},
		{"␛P|17/4142␛\\␛[61\"p", six, ""},
		{"␛[61\"p", keys.Event{Kind: keys.F, Code: 11}, "␛"},
		{"", pad, "5"},
		{"␛=", pad, "␛Ou"},
		{"␛=␛>", pad, "5"},
		{"␛[?66h", pad, "␛Ou"},
		{"␛[20h", keys.Event{Kind: keys.Return}, "\r\n"},
		{"␛[?67h", keys.Event{Kind: keys.Backspace}, "\b"},
		{"␛[2h", up, ""},
		{"", keys.Event{Kind: 17}, ""},
		{"", keys.Event{Kind: math.MinInt}, ""},
		{"ab␛[3", keys.Event{Kind: keys.Char, Code: 'x'}, "x"},
	} {
		u := fresh(t, 3, 8, 2)
		u.Feed([]byte(raw(c.in)))
		ahead := u.Clone()
		if got := string(u.Key(c.e)); got != raw(c.want) {
			t.Errorf("%q: %+v sends %q", c.in, c.e, got)
		}
		if !u.Same(ahead) {
			t.Errorf("%q: %+v changes something", c.in, c.e)
		}
	}
}

func TestDefinedKeys(t *testing.T) {
	for _, c := range []struct{ in, want string }{
		{"␛P|17/41␛\\", "[17] true"},
		{"␛P0;0|17/41␛\\", "[17] true"},
		{"␛P0;1|17/41␛\\", "[17] false"},
		{"␛P0;7|17/41␛\\", "[17] false"},
		{"␛P0;1|17/41␛\\␛P1;1|18/41␛\\", "[17 18] false"},
		{"␛P0;1|17/41␛\\␛P9;1|18/41␛\\", "[17 18] false"},
		{"␛P0;1|17/41␛\\␛P0;1|18/41␛\\", "[18] false"},
		{"␛P0;1|17/41␛\\␛P0;0|22/41␛\\", "[17] false"},
		{"␛P0;0|17/41␛\\␛P0;0|18/41␛\\", "[17] true"},
		{"␛P0;0|17/41␛\\␛[!p", "[17] true"},
		{"␛P0;0|17/41␛\\␛c", "[] false"},
		{"␛[61\"p␛P|17/41␛\\", "[] false"},
	} {
		u := fresh(t, 3, 8, 2)
		u.Feed([]byte(raw(c.in)))
		if got := fmt.Sprint(u.Keys().Ids(), u.Keys().Locked()); got != c.want {
			t.Errorf("%q: keys %s, not %s", c.in, got, c.want)
		}
	}
}

func TestRestored(t *testing.T) {
	const asked = "␛[1$w"
	play(t, []scene{
		{"ab␛P1$t2;3;1;@;@;@;0;2;@;BB%5%5␛\\x", "ab/  x/ @1,3", ""},
		{"ab␛P1$t2;3;2;E;A;I;1;3;H;B0%5A␛\\" + asked + "␛[?6$p", "// @1,2wo", "␛P1$u2;3;2;E;A;I;1;3;H;B0%5A␛\\␛[?6;1$y"},
		{"ab␛P1$t0;0;0;@;@;@;0;2;@;BB%5%5␛\\", "ab// @0,0", ""},
		{"ab␛P1$t9;9;9;@;@;@;0;2;@;BB%5%5␛\\" + asked, "// @2,7", "␛P1$u3;8;2;@;@;@;0;2;@;BB%5%5␛\\"},
		{"ab␛P1$t2;3;1;@;@;@;0;2;@;BB%5␛\\", "ab// @0,2", ""},
		{"ab␛P$t2;3;1;@;@;@;0;2;@;BB%5%5␛\\␛P3$t2;3;1;@;@;@;0;2;@;BB%5%5␛\\␛P2$t2;3;1;@;@;@;0;2;@;BB%5%5␛\\", "ab// @0,2", ""},
		{"ab␛[3;1H␛#6␛P1$t3;8;1;@;@;H;0;2;@;BB%5%5␛\\", "ab// @2,3", ""},
		{"ab" + status + "cd␛P1$t3;8;2;@;@;@;0;2;@;BB%5%5␛\\␛[6n", "cd @0,7", "␛[1;8R"},
		{"ab" + status + "cd␛P1$t3;8;2;@;@;@;0;2;@;BB%5%5␛\\␛[0$}" + asked, "// @0,2", "␛P1$u1;3;2;@;@;@;0;2;@;BB%5%5␛\\"},
		{"␛[2;3r␛P1$t1;1;1;@;@;A;0;2;@;BB%5%5␛\\", "// @0,0o", ""}, // where it was, though that is outside
		{"␛P2$t3/5␛\\\tx\ty", "  x y// @0,5", ""},
		{"␛P2$t3/5␛\\␛P2$t7//␛\\␛P1$t7␛\\␛P$t7␛\\\tx", "  x// @0,3", ""},
		{"␛P2$t3/5␛\\␛P2$t␛\\\tx", "       x// @0,7w", ""},
		{"␛P2$t3/9/99␛\\␛[2$w", "// @0,0", "␛P2$u3␛\\"},
	})
}

func TestRestoredWhole(t *testing.T) {
	const asked = "␛[1$u"
	told := func(numbers string) string { return "␛P1$s" + numbers + "␛\\" }
	play(t, []scene{
		{"ab␛P1$p5;0;0;2948;0;0;0;0;0;3;8;0␛\\" + asked, "ab// @0,2", told("5;0;0;2948;0;0;0;0;0;3;8;0")},
		{"ab␛P1$p5;0;8;3012;1;1;0;1;2;3;6;1␛\\" + asked, "ab// @0,2o", told("5;0;8;3012;1;1;0;1;2;3;6;1")},
		{"ab␛P1$p4;1;8;2948;0;2;0;1;2;3;6;0␛\\" + asked, "ab// @0,2", "\x901$s4;1;8;2948;0;2;0;1;2;3;6;0\x9c"},
		{"ab␛P$p5;0;8;2948;1;1;0;1;2;3;6;1␛\\␛P2$p5;0;8;2948;1;1;0;1;2;3;6;1␛\\" + asked, "ab// @0,2", told("5;0;0;2948;0;0;0;0;0;3;8;0")},
		{"ab␛P1$p5;0;8;2948;1;1;0;1;2;4;6;0␛\\␛P1$p6;0;8;2948;1;1;0;1;2;3;6;0␛\\␛P1$p5;0;8;2948;1;1;0;1;2;3;6␛\\␛P1$p␛\\" + asked, "ab// @0,2", told("5;0;0;2948;0;0;0;0;0;3;8;0")},
		{"ab␛P1$p5;0;0;2948;1;1;0;1;2;3;6;0␛\\" + asked, "ab// @0,2", told("5;0;0;2948;1;1;0;1;0;3;8;0")},     // without LRMM all columns
		{"ab␛P1$p5;0;0;3012;0;0;0;0;0;3;8;0␛\\" + asked, "ab// @0,2", told("5;0;0;2948;0;0;0;0;0;3;8;0")},     // OM goes by the cursor
		{"ab␛P1$p5;0;0;2948;0;0;0;0;0;3;8;1␛\\" + asked, "ab// @0,2o", told("5;0;0;3012;0;0;0;0;0;3;8;1")},    // both ways
		{"ab␛P1$p5;0;0;2948;0;2;1;0;0;3;8;0␛\\cd" + asked, "cd @0,2", told("5;0;0;2948;0;2;1;0;0;3;8;0")},     // one looks at the status line
		{"ab␛P1$p5;0;0;2948;0;1;1;0;0;3;8;0␛\\cd" + asked, "abcd// @0,4", told("5;0;0;2948;0;1;0;0;0;3;8;0")}, // but of that kind alone
		{"ab" + status + "cd␛P1$p5;0;0;2948;0;2;0;0;0;3;8;0␛\\ef", "abef// @0,4", ""},                         // or at the page
		{"ab" + status + "cd␛P1$p5;0;0;2948;0;1;0;0;0;3;8;0␛\\" + status + "ef", "cdef @0,4", ""},             // and no cell is changed
		{"ab" + status + "cd␛P1$p5;0;0;2948;0;0;1;0;0;3;8;0␛\\ef", "abef// @0,4", ""},
		{"ab" + status + "cd␛P1$p5;0;0;3012;0;2;0;0;0;3;8;1␛\\" + asked, "ab// @0,2", told("5;0;0;2948;0;2;0;0;0;3;8;0")}, // whose cursor it was, counts so
		{"ab" + status + "cd␛P1$p5;0;0;3012;0;2;0;0;0;3;8;1␛\\␛[1$}", "cd @0,2o", ""},
		{"␛#6␛P1$p5;0;8;2948;0;0;0;0;0;3;8;0␛\\abcde", "abcd/e/ @1,1", ""}, // sizes of lines stay
		{"ab␛P1$p1;0;0;2948;0;0;0;0;0;3;8;0␛\\" + asked + "␛[65;1\"p" + asked, "ab// @0,2", told("5;0;0;2948;0;0;0;0;0;3;8;0")},
	})
}

func TestResize(t *testing.T) {
	u := fresh(t, 3, 8, 2)
	u.Feed([]byte(raw("abcdefgh\r\nijklmnop\r\nqrstuvwx" + status + "12345678␛[0$}")))
	steps := []struct {
		rows, cols         int
		shown, aside, tabs string
	}{
		{3, 8, "abcdefgh/ijklmnop/qrstuvwx @2,7", "0,7 false", "[]"},
		{2, 4, "abcd/ijkl @1,3", "0,3 false", "[]"},
		{4, 9, "abcd/ijkl// @1,3", "0,3 false", "[8]"},
		{1, 20, "abcd @0,3", "0,3 false", "[8 16]"},
		{1, 10, "abcd @0,3", "0,3 false", "[8]"},
	}
	for _, s := range steps {
		if e := u.Resize(s.rows, s.cols); e != api.OK {
			t.Errorf("Resize(%d, %d) = %d", s.rows, s.cols, e)
		}
		c := u.Core()
		whole := api.Box{Bottom: s.rows, Right: s.cols}
		if c.Frame != (curs.Frame{Page: whole, Margins: whole}) || c.Pages != 2 || u.Book().Status().Box() != (api.Box{Bottom: 1, Right: s.cols}) {
			t.Errorf("Resize(%d, %d): %+v", s.rows, s.cols, c.Frame)
		}
		if aside := fmt.Sprintf("%d,%d %v", u.Aside().Row, u.Aside().Col, u.Aside().Wrap); shown(u) != s.shown || aside != s.aside || fmt.Sprint(u.Tabs()) != s.tabs {
			t.Errorf("Resize(%d, %d): %q, aside %s, stops %v", s.rows, s.cols, shown(u), aside, u.Tabs())
		}
	}
	ahead := u.Clone()
	for _, size := range [][2]int{{0, 1}, {1, 0}, {-1, 5}, {501, 5}, {5, 501}, {math.MinInt, 1}, {1, math.MaxInt}, {1 << 32, 1 << 32}, {1<<32 + 1, 1}} {
		if e := u.Resize(size[0], size[1]); e != api.ErrArg || !u.Same(ahead) {
			t.Errorf("Resize%v = %d", size, e)
		}
	}
}

// P24.1: a new size keeps what isn't said of it.
func TestResizeKeeps(t *testing.T) {
	for _, c := range []struct{ in, shown, asked, answers string }{
		{margins + "␛[?6h␛[2;2H", "/ @1,3o", "␛[1;1H␛[6n␛[9;9H␛P$qs␛\\␛[?6$p␛[?69$p", "␛[1;1R␛P1$r1;6s␛\\␛[?6;1$y␛[?69;1$y"},
		{"ab␛7␛[3;8H", "ab/ @1,5", "␛8␛[6n", "␛[1;3R"},
		{"␛[3;8H␛7", "/ @1,5", "␛[H␛8␛[6n", "␛[2;6R"},
		{"␛[2;1H␛#6␛[2;8H", "/ @1,2", "", ""},
		{"␛[3;8H" + status + "␛[8G", " @0,5", "␛[0$}␛[6n", "␛[2;6R"},
		{"abcdefgh␛[H", "abcdef/ @0,0", "", ""},
		{"␛[1;3r␛[ Qx␛[ R", "/ @0,1", "␛[ Q␛[?6n", "␛[?1;2;2R"},
		{"␛P1!zq␛\\␛P|17/41␛\\␛[1m", "/ @0,0", "␛[1*z␛[?25n␛P$qm␛\\", "␛[?21n␛P1$r0;1m␛\\"},
	} {
		u := fresh(t, 3, 8, 2)
		u.Feed([]byte(raw(c.in)))
		if e := u.Resize(2, 6); e != api.OK || shown(u) != c.shown {
			t.Errorf("%q: Resize = %d, %q, not %q", c.in, e, shown(u), c.shown)
		}
		if got := string(u.Feed([]byte(raw(c.asked)))); got != raw(c.answers) {
			t.Errorf("%q: %q answers %q, not %q", c.in, c.asked, got, raw(c.answers))
		}
	}
}

// P24.1: the host's own sizes.
func TestResizedByHost(t *testing.T) {
	for _, c := range []struct {
		in         string
		rows, cols int
	}{
		{"␛[$|", 3, 80}, {"␛[0$|", 3, 80}, {"␛[80$|", 3, 80}, {"␛[132$|", 3, 132}, {"␛[81$|␛[1$|␛[131$|␛[65535$|", 3, 8},
		{"␛[24t", 24, 8}, {"␛[25t", 25, 8}, {"␛[36t", 36, 8}, {"␛[48t", 48, 8}, {"␛[72t", 72, 8}, {"␛[144t", 144, 8},
		{"␛[t␛[0t␛[1t␛[23t␛[26t␛[65535t", 3, 8},
		{"␛[24t␛[$|", 24, 80},
		{"␛[62\"p␛[2;3r␛[24t␛[132$|", 3, 8},
		{status + "␛[24t␛[132$|", 3, 8},
	} {
		u := fresh(t, 3, 8, 2)
		u.Feed([]byte(raw("x␛[2;3r␛[3;8H" + c.in)))
		rows, cols := u.Book().Size()
		whole := api.Box{Bottom: c.rows, Right: c.cols}
		if rows != c.rows || cols != c.cols || u.Core().Frame.Page != whole || u.Book().Count() != 2 {
			t.Errorf("%q: %d rows, %d columns", c.in, rows, cols)
		}
		if changed := c.rows != 3 || c.cols != 8; changed != (u.Core().Frame.Margins == whole) {
			t.Errorf("%q: margins %+v", c.in, u.Core().Frame.Margins)
		}
	}
}

// P24.5: what was asked of one terminal brings just that back in another one, and changes no cell.
func TestBroughtBack(t *testing.T) {
	payload := func(answer []byte) string {
		return string(parser.Split(answer)[0].Data)
	}
	ask := func(u *term.Terminal, what string) string {
		return payload(u.Feed([]byte("\x1b[" + what)))
	}
	// ready is a terminal by chance that looks at its page, and can be asked; all of whose lines are Single, if that is wished.
	ready := func(s source, rows, cols, pages int, single bool) *term.Terminal {
		u := fresh(t, rows, cols, pages)
		u.Feed([]byte(s.stream(60)))
		u.Feed([]byte("\x18"))
		if u.Core().Level < 4 {
			u.Feed([]byte("\x1b[65\"p"))
		}
		u.Feed([]byte("\x1b[0$}"))
		if single && !u.Core().Modes.Has(15) {
			u.Feed([]byte("\x1b[?69h\x1b[?69l"))
		}
		u.Resize(rows, cols)
		u.Feed([]byte(s.one("", "\x1b[?69h\x1b[2s", "\x1b[2;3r\x1b[?6h", "\x1b[99;99Hx", "\x1b[1;4m\x1b[1\"q\x1bN", "\x1b[?69h\x1b[1;2s\x1b[?6h", "\x1b[*x\x1b[2$~\x1b[?7l")))
		return u
	}
	cells := func(u *term.Terminal) *book.Book {
		b := u.Book()
		b.Turn(0)
		return b
	}
	for seed := range int64(600) {
		s := source{rand.New(rand.NewSource(seed))}
		rows, cols, pages := s.size()
		from, to := ready(s, rows, cols, pages, false), ready(s, rows, cols, pages, true)
		if !oneSize(to.Book()) {
			continue
		}
		ahead := cells(to)
		cursor, stops, whole := ask(from, "1$w"), ask(from, "2$w"), ask(from, "1$u")
		to.Feed([]byte("\x1bP1$p" + whole + "\x1b\\"))
		if got := ask(to, "1$u"); got != whole {
			t.Fatalf("seed %d: all is %q, not %q", seed, got, whole)
		}
		to.Feed([]byte("\x1bP1$t" + cursor + "\x1b\\"))
		if got := ask(to, "1$w"); got != cursor {
			t.Fatalf("seed %d: the cursor is %q, not %q", seed, got, cursor)
		}
		to.Feed([]byte("\x1bP2$t" + stops + "\x1b\\"))
		if got := ask(to, "2$w"); got != stops {
			t.Fatalf("seed %d: the stops are %q, not %q", seed, got, stops)
		}
		if !cells(to).Same(ahead) {
			t.Fatalf("seed %d: cells have changed", seed)
		}
		if to.Core() != from.Core() {
			t.Fatalf("seed %d: the core is %+v, not %+v", seed, to.Core(), from.Core())
		}
	}
}

// oneSize: are all lines of all pages Single?
func oneSize(b *book.Book) bool {
	for n := range b.Count() {
		for row := range b.Page(n).Rows() {
			if l := b.Page(n).Line(row); line.Width(l) != len(l.Cells) {
				return false
			}
		}
	}
	return true
}

// P24.7: a clone goes its own way.
func TestClone(t *testing.T) {
	for seed := range int64(200) {
		s := source{rand.New(rand.NewSource(seed))}
		rows, cols, pages := s.size()
		u := fresh(t, rows, cols, pages)
		stream := []byte(s.stream(40))
		u.Feed(stream[:s.Intn(len(stream)+1)])
		one, two := u.Clone(), u.Clone()
		if !one.Same(u) || !u.Same(one) || !u.Same(u) {
			t.Fatalf("seed %d: no clone", seed)
		}
		more := []byte(s.stream(40) + "\x18\x1bc\x1b[1;1Hclone\x1b7\x1b[3g\x1bP1!zclone\x1b\\\x1bP|17/41\x1b\\" + "\x1b[2$~\x1b[1$}clone\x1b7")
		answers := one.Feed(more)
		if !two.Same(u) {
			t.Fatalf("seed %d: what comes to a clone changes the other ones", seed)
		}
		if got := u.Feed(more); !bytes.Equal(got, answers) || !one.Same(u) {
			t.Fatalf("seed %d: a clone answers %q, not %q", seed, answers, got)
		}
	}
}

// P24.7: a clone has what can't be seen of the other one, too.
func TestCloneOfHidden(t *testing.T) {
	for _, c := range []struct{ in, more, want string }{
		{"␛[3;3H␛7␛[2$~␛[1$}", "␛[0$}␛[H␛8", "// @2,2"},
		{"␛[2$~␛[1$}ab␛7\r␛[0$}", "␛[1$}␛8x", "abx @0,3"},
		{"ab␛[2$~␛[1$}cd", "␛[0$}e", "abe// @0,3"},
		{"a␛[2J", "␛[b", " a// @0,2"},
		{"a␛[2", "J", "// @0,1"},
	} {
		u := fresh(t, 3, 8, 2)
		u.Feed([]byte(raw(c.in)))
		v := u.Clone()
		u.Feed([]byte("\x18\x1bc\x1b[2;2Hz\x1b7\x1b[2$~\x1b[1$}z\x1b7"))
		v.Feed([]byte(raw(c.more)))
		if got := shown(v); got != c.want {
			t.Errorf("%q, %q: %q, not %q", c.in, c.more, got, c.want)
		}
	}
}

// P24.7: whatever parts two terminals, now or later, tells that they aren't alike.
func TestSame(t *testing.T) {
	begun := []string{"", "a", "\x1b[1m", "\x1b[1;5H", "\x1b[2 P", "\x1bH", "\x1bP1!zx\x1b\\", "\x1bP1;0;1!z79\x1b\\",
		"\x1bP0;1|17/41\x1b\\", "\x1bP0;0|\x1b\\", "\x1b7", "\x1b[4h", "\x1b[?69h", "\x1b[2;3r", "\x1b)0", "\x1bN", "\x1b#6", "\x1b G", "\x1b[64;1\"p", "\x1b[*x",
		"\x1b[1$~", "\x1b[2$~", "\x1b[2$~\x1b[1$}", "\x1b[2$~\x1b[1$}\x1b[1m\x1b[0$}", "\x1b[2$~\x1b[1$}\x1b7\x1b[0$}", "\x1b[2$~\x1b[1$}\x1b[5G\x1b7\x1b[G\x1b[0$}",
		"a\x1b[2J\x1b[H", "b\x1b[2J\x1b[H", "\x1b", "\x1b[", "\x1b[1", "\x1bP", "\x1b]x", "\x1b[2;5H\x1b7\x1b[H", "\x1b[1\"q", "abcdefgh", "\x1b[?6h",
		"\x1b[1$}\x1b[2 Px\x1b[2J\x1b[ P\x1b[H\x1b#6", "\x1b[2 Pq\x1b[ P\b"}
	for i, one := range begun {
		for j, two := range begun {
			u, v := fresh(t, 3, 8, 2), fresh(t, 3, 8, 2)
			u.Feed([]byte(one))
			v.Feed([]byte(two))
			if u.Same(v) != (i == j) {
				t.Errorf("%q, %q: Same is %v", one, two, u.Same(v))
			}
		}
	}
	for _, size := range [][3]int{{3, 8, 1}, {3, 7, 2}, {2, 8, 2}} {
		if fresh(t, 3, 8, 2).Same(fresh(t, size[0], size[1], size[2])) {
			t.Errorf("alike in spite of size %v", size)
		}
	}
	// What came there another way is the same.
	u, v := fresh(t, 3, 8, 2), fresh(t, 3, 8, 2)
	u.Feed([]byte("a\x1b[1mb\x1b[m\x1b[3"))
	v.Feed([]byte("xb\ra\x1b[1mb\x1b[22m\x9b3"))
	if !u.Same(v) {
		t.Errorf("not alike")
	}
}

// P24.7: what is handed out is no part of the terminal.
func TestCopies(t *testing.T) {
	u := fresh(t, 3, 8, 2)
	u.Feed([]byte(raw("ab␛7␛[2GH␛H␛P1!zxy␛\\␛P0;1|17/41␛\\")))
	ahead := u.Clone()
	b, stops, macros, texts := u.Book(), u.Tabs(), u.Macros(), u.Keys()
	b.Erase()
	b.Turn(1)
	b.Look(true)
	b.Page(0).Put(api.Pos{}, api.Cell{Glyph: 'z'})
	for i := range stops {
		stops[i] = 99
	}
	macros.Clear()
	texts.Clear()
	texts.Lock(true)
	if !u.Same(ahead) || !ahead.Same(u) || len(stops) == 0 {
		t.Errorf("what was handed out has changed the terminal")
	}
	for i, c := range u.Feed([]byte("\x1b[6n")) {
		if i == 0 && c != 0x1B {
			t.Errorf("answered %x", c)
		}
	}
	one := u.Feed([]byte("\x1b[6n"))
	for i := range one {
		one[i] = 'z'
	}
	if got := string(u.Feed([]byte("\x1b[6n"))); got != "\x1b[1;3R" {
		t.Errorf("answered %q", got)
	}
}

// P24.1: Saved and Aside are those of what one looks at, and doesn't.
func TestHands(t *testing.T) {
	u := fresh(t, 3, 8, 2)
	see := func(in, want string) {
		t.Helper()
		u.Feed([]byte(raw(in)))
		saved, is := u.Saved()
		if got := fmt.Sprintf("%d,%d %d,%d %v", u.Aside().Row, u.Aside().Col, saved.Row, saved.Col, is); got != want {
			t.Errorf("%q: %s, not %s", in, got, want)
		}
	}
	see("ab", "0,0 0,0 false")
	see("␛7", "0,0 0,2 true")
	see("␛[3;4H"+status, "2,3 0,0 false")
	see("x␛7yz", "2,3 0,1 true")
	see("␛[$}", "0,3 0,2 true")
	see("␛[1$}␛[!p", "2,3 0,0 false")
	see("␛[$}", "0,3 0,2 true")
	see("␛8␛[2;2H␛7", "0,3 1,1 true")
	u.Resize(1, 1)
	see("", "0,0 1,1 true") // what was saved stays as it was
	see("␛c", "0,0 0,0 false")
}

// P24.1: whatever the bytes, Idle is the parser's.
func TestIdle(t *testing.T) {
	for in, want := range map[string]bool{"": true, "a": true, "\x1b": false, "\x1b[": false, "\x1b[1": false, "\x1b[1m": true, "\x1bP": false, "\x1bPq\x1b": false, "\x1bPq\x1b\\": true, "\x1b]x\x07": true, "\x1b[\x18": true, "\x9b": false, "a\x1bc": true, "\x9b\x1bc\x1b(": false} {
		u := fresh(t, 2, 4, 1)
		u.Feed([]byte(in))
		if u.Idle() != want {
			t.Errorf("%q: Idle is %v", in, u.Idle())
		}
	}
}

// P24.6: great counts, and macros that call one another, end.
func TestEnds(t *testing.T) {
	u := fresh(t, 500, 500, 16)
	for _, key := range keysAt {
		for _, k := range key {
			if k[0] == '[' {
				at := 1
				if strings.ContainsAny(k[1:2], "?>=") {
					at = 2
				}
				u.Feed([]byte("x\x1b[" + k[1:at] + strings.Repeat("65535;", 31) + k[at:]))
				u.Feed([]byte("x\x1b[" + k[1:at] + "99999999999999999999" + k[at:]))
			}
		}
	}
	var loop strings.Builder
	for n := range 64 {
		fmt.Fprintf(&loop, "\x1bP%d;0;1!z!6;1b5b%X2a7a;\x1b\\", n, fmt.Sprint((n+1)%64))
	}
	u = fresh(t, 5, 5, 1)
	u.Feed([]byte(loop.String() + strings.Repeat("\x1b[0*z", 20)))
	if u.Macros().Ids() == nil || !u.Idle() {
		t.Errorf("no macros")
	}
}
