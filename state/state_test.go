package state_test

import (
	"fmt"
	"math"
	"math/rand"
	"regexp"
	"slices"
	"strconv"
	"strings"
	"testing"

	"phosphor/api"
	"phosphor/charset"
	"phosphor/curs"
	"phosphor/iso"
	"phosphor/mode"
	"phosphor/parser"
	"phosphor/state"
	"phosphor/token"
)

// far are numbers beyond all ends, and such as would come round to one that may be, if they were cut short.
var far = []int{math.MinInt, math.MinInt + 1, math.MinInt32, -1 << 32, -1<<32 + 3, -65536, -256, 255, 256, 257, 65535, 65536, 65537, math.MaxInt32, 1 << 32, 1<<32 + 1, 1<<32 + 2, math.MaxInt - 1, math.MaxInt}

// What follows tells by the document's words, apart from the package, what a core counts as, and what is told of it.

func among(n, least, most int) int {
	switch {
	case n < least:
		return least
	case n > most:
		return most
	}
	return n
}

// frame is a page and margins, as layer 13 takes them.
func frame(f curs.Frame) curs.Frame {
	page := api.Box{Bottom: max(f.Page.Bottom, 1), Right: max(f.Page.Right, 1)}
	m := f.Margins
	both := api.Box{Top: max(m.Top, 0), Left: max(m.Left, 0), Bottom: min(m.Bottom, page.Bottom), Right: min(m.Right, page.Right)}
	if both.Top >= both.Bottom || both.Left >= both.Right {
		both = page
	}
	return curs.Frame{Page: page, Margins: both}
}

func cleaned(c state.Core) state.Core {
	c.Frame = frame(c.Frame)
	c.Cursor.Row = among(c.Cursor.Row, 0, c.Frame.Page.Bottom-1)
	c.Cursor.Col = among(c.Cursor.Col, 0, c.Frame.Page.Right-1)
	c.Cursor.Rend &= 31
	c.Modes &= 1<<17 - 1
	c.Level = among(c.Level, 1, 5)
	c.Status = among(c.Status, 0, 2)
	c.Pages = among(c.Pages, 1, 16)
	c.Page = among(c.Page, 0, c.Pages-1)
	if s := c.Cursor.Sets.Single; s != 2 && s != 3 {
		c.Cursor.Sets.Single = 0
	}
	if g := c.Cursor.Sets.GL; g < 0 || g > 3 {
		c.Cursor.Sets.GL = 0
	}
	if g := c.Cursor.Sets.GR; g < 0 || g > 3 {
		c.Cursor.Sets.GR = 2
	}
	return c
}

// told is the cursor's report.
func told(c state.Core) string {
	c = cleaned(c)
	at := c.Cursor
	kept, flags := 0, 0
	if at.Kept {
		kept = 1
	}
	if at.Origin {
		flags += 1
	}
	if at.Sets.Single == 2 {
		flags += 2
	}
	if at.Sets.Single == 3 {
		flags += 4
	}
	if at.Wrap {
		flags += 8
	}
	sizes, ids := 0x40, ""
	for g, worth := range []int{1, 2, 4, 8} {
		id, wide := charset.Id(at.Sets.G[g])
		if wide {
			sizes += worth
		}
		ids += id
	}
	return fmt.Sprintf("%d;%d;%d;%c;%c;%c;%d;%d;%c;%s", at.Row+1, at.Col+1, c.Page+1, 0x40+int(at.Rend), 0x40+kept, 0x40+flags, at.Sets.GL, at.Sets.GR, sizes, ids)
}

var (
	cursorForm = regexp.MustCompile(`^([0-9]+);([0-9]+);([0-9]+);([@-_]);([@A]);([@-O]);([0-9]+);([0-9]+);([@-O]);([ -~]*)$`)
	idsForm    = regexp.MustCompile(`^(%[ -~]|[ -$&-~])(%[ -~]|[ -$&-~])(%[ -~]|[ -$&-~])(%[ -~]|[ -$&-~])$`)
	numberForm = regexp.MustCompile(`^[0-9]*$`)
)

// number is what digits say, at most 65535; no digits are 0.
func number(digits string) int {
	digits = strings.TrimLeft(digits, "0")
	if len(digits) > 5 {
		return 65535
	}
	n, _ := strconv.Atoi(digits)
	return min(n, 65535)
}

// brought is what SetCursor makes of a core, and whether the report is of the form.
func brought(c state.Core, report string) (state.Core, bool) {
	c = cleaned(c)
	f := cursorForm.FindStringSubmatch(report)
	if f == nil {
		return c, false
	}
	then := c
	then.Cursor.Row = among(number(f[1]), 1, c.Frame.Page.Bottom) - 1
	then.Cursor.Col = among(number(f[2]), 1, c.Frame.Page.Right) - 1
	then.Page = among(number(f[3]), 1, c.Pages) - 1
	then.Cursor.Rend = api.Rend(f[4][0] - 0x40)
	then.Cursor.Kept = f[5] == "A"
	flags := int(f[6][0]) - 0x40
	then.Cursor.Origin, then.Cursor.Wrap = flags%2 == 1, flags >= 8
	switch flags % 8 / 2 {
	case 3:
		return c, false
	case 2:
		then.Cursor.Sets.Single = 3
	case 1:
		then.Cursor.Sets.Single = 2
	case 0:
		then.Cursor.Sets.Single = 0
	}
	gl, gr := number(f[7]), number(f[8])
	ids := idsForm.FindStringSubmatch(f[10])
	if ids == nil || gl > 3 || gr > 3 || gr == 0 {
		return c, false
	}
	then.Cursor.Sets.GL, then.Cursor.Sets.GR = gl, gr
	for g, worth := range []int{1, 2, 4, 8} {
		wide := int(f[9][0])/worth%2 == 1
		set, ok := charset.Find(wide, ids[1+g])
		if !ok || wide && g == 0 {
			return c, false
		}
		then.Cursor.Sets.G[g] = set
	}
	return then, true
}

func yes(is bool) string {
	if is {
		return "1"
	}
	return "0"
}

// all is the report of all.
func all(c state.Core) string {
	c = cleaned(c)
	m := c.Frame.Margins
	return fmt.Sprintf("%d;%s;%d;%d;%s;%d;%s;%d;%d;%d;%d;%s", c.Level, yes(c.Eight), c.Modes>>12, c.Modes%4096, yes(c.Stream), c.Status, yes(c.Below), m.Top, m.Left, m.Bottom, m.Right, yes(c.Cursor.Origin))
}

// restored is what Restore makes of a core, and whether the report is of the form.
func restored(c state.Core, report string) (state.Core, bool) {
	c = cleaned(c)
	fields := strings.Split(report, ";")
	if len(fields) != 12 {
		return c, false
	}
	var n []int
	for _, f := range fields {
		if !numberForm.MatchString(f) {
			return c, false
		}
		n = append(n, number(f))
	}
	page := c.Frame.Page
	for i, most := range []int{5, 1, 31, 4095, 1, 2, 1, page.Bottom - 1, page.Right - 1, page.Bottom, page.Right, 1} {
		if n[i] > most {
			return c, false
		}
	}
	if n[0] < 1 || n[7] >= n[9] || n[8] >= n[10] {
		return c, false
	}
	c.Level, c.Eight, c.Modes = n[0], n[1] == 1, mode.Modes(n[2]<<12+n[3])
	c.Stream, c.Status, c.Below = n[4] == 1, n[5], n[6] == 1
	c.Frame.Margins = api.Box{Top: n[7], Left: n[8], Bottom: n[9], Right: n[10]}
	c.Cursor.Origin = n[11] == 1
	return c, true
}

// full is a core of which nothing is as at the beginning: what a call is to leave as it is, can be told.
func full() state.Core {
	return state.Core{
		Cursor: curs.Cursor{Pos: api.Pos{Row: 3, Col: 7}, Rend: api.Bold | api.Hidden, Kept: true, Wrap: true, Origin: true, Sets: iso.State{G: [4]int{charset.German, charset.Latin, charset.Special, charset.Portuguese}, GL: 1, GR: 3, Single: 2}},
		Frame:  curs.Frame{Page: api.Box{Bottom: 6, Right: 9}, Margins: api.Box{Top: 1, Left: 2, Bottom: 5, Right: 8}},
		Modes:  1<<17 - 1 - 2948, Level: 3, Eight: true, Stream: true, Status: 2, Below: true, Page: 2, Pages: 4,
	}
}

// wild is a core with some field or other beyond its ends.
func wild(rnd *rand.Rand) state.Core {
	pick := func(most int) int {
		if rnd.Intn(12) == 0 {
			return far[rnd.Intn(len(far))]
		}
		return rnd.Intn(most+4) - 2
	}
	one := func() bool { return rnd.Intn(2) == 0 }
	box := func() api.Box { return api.Box{Top: pick(3), Left: pick(3), Bottom: pick(8), Right: pick(8)} }
	set := func() int { return pick(17) }
	return state.Core{
		Cursor: curs.Cursor{Pos: api.Pos{Row: pick(8), Col: pick(8)}, Rend: api.Rend(rnd.Intn(256)), Kept: one(), Wrap: one(), Origin: one(), Sets: iso.State{G: [4]int{set(), set(), set(), set()}, GL: pick(3), GR: pick(3), Single: pick(3)}},
		Frame:  curs.Frame{Page: box(), Margins: box()},
		Modes:  mode.Modes(rnd.Uint32()), Level: pick(5), Eight: one(), Stream: one(), Status: pick(2), Below: one(), Page: pick(16), Pages: pick(16),
	}
}

// cores are the zero one, new ones, and many others.
func cores(seed int64, count int) []state.Core {
	list := []state.Core{{}, full(), state.New(24, 80, 3), state.New(1, 1, 1), state.New(500, 500, 16), state.New(0, -1, 0), state.New(math.MaxInt, math.MaxInt, math.MaxInt), state.New(math.MinInt, math.MinInt, math.MinInt)}
	for _, n := range far {
		c := full()
		c.Cursor.Pos, c.Level, c.Status, c.Page, c.Pages = api.Pos{Row: n, Col: n}, n, n, n, n
		c.Cursor.Sets = iso.State{G: [4]int{n, n, n, n}, GL: n, GR: n, Single: n}
		list = append(list, c)
		c.Frame = curs.Frame{Page: api.Box{Top: n, Left: n, Bottom: n, Right: n}, Margins: api.Box{Top: -3, Left: 2, Bottom: n, Right: n}}
		list = append(list, c)
	}
	rnd := rand.New(rand.NewSource(seed))
	for range count {
		list = append(list, wild(rnd))
	}
	return list
}

// able is a core whose sets are such as may be designated, so that they can be brought back.
func able(rnd *rand.Rand, rows, cols, pages int) state.Core {
	c := wild(rnd)
	c.Frame.Page, c.Pages = api.Box{Bottom: rows, Right: cols}, pages
	for g := range c.Cursor.Sets.G {
		set := 1 + rnd.Intn(charset.Sets())
		if g == 0 && set == charset.Latin {
			set = charset.British
		}
		c.Cursor.Sets.G[g] = set
	}
	c.Cursor.Sets.GL, c.Cursor.Sets.GR, c.Cursor.Sets.Single = rnd.Intn(4), 1+rnd.Intn(3), rnd.Intn(4)
	return c
}

func TestNew(t *testing.T) {
	for _, rows := range append([]int{-1, 0, 1, 2, 24, 500, 501}, far...) {
		for _, cols := range append([]int{-1, 0, 1, 80, 500, 501}, far...) {
			for _, pages := range append([]int{-1, 0, 1, 3, 16, 17}, far...) {
				whole := api.Box{Bottom: max(rows, 0), Right: max(cols, 0)}
				want := state.Core{Cursor: curs.New(), Frame: curs.Frame{Page: whole, Margins: whole}, Modes: mode.Begin(), Level: 5, Pages: pages}
				if got := state.New(rows, cols, pages); got != want {
					t.Fatalf("P19.1: New(%d, %d, %d) = %+v, not %+v", rows, cols, pages, got, want)
				}
			}
		}
	}
}

func TestClean(t *testing.T) {
	for _, c := range cores(191, 30000) {
		want := cleaned(c)
		if got := c.Clean(); got != want {
			t.Fatalf("P19.1: %+v: Clean = %+v, not %+v", c, got, want)
		}
		if got := want.Clean(); got != want {
			t.Fatalf("P19.1: %+v: Clean again = %+v", want, got)
		}
	}
}

// Each field of a core that is clean, made another one by itself.
func TestCleanByField(t *testing.T) {
	clean := full()
	check := func(name string, change func(c *state.Core, n int), want func(n int) int, field func(c state.Core) int) {
		t.Helper()
		for _, n := range append([]int{-3, -2, -1, 0, 1, 2, 3, 4, 5, 6, 7, 8, 9, 10, 15, 16, 17, 18, 63, 64}, far...) {
			c := clean
			change(&c, n)
			if got := field(c.Clean()); got != want(n) {
				t.Errorf("P19.1: %s %d counts as %d, not %d", name, n, got, want(n))
			}
		}
	}
	between := func(least, most int) func(n int) int {
		return func(n int) int { return among(n, least, most) }
	}
	or := func(list []int, other int) func(n int) int {
		return func(n int) int {
			if slices.Contains(list, n) {
				return n
			}
			return other
		}
	}
	check("row", func(c *state.Core, n int) { c.Cursor.Row = n }, between(0, 5), func(c state.Core) int { return c.Cursor.Row })
	check("column", func(c *state.Core, n int) { c.Cursor.Col = n }, between(0, 8), func(c state.Core) int { return c.Cursor.Col })
	check("Level", func(c *state.Core, n int) { c.Level = n }, between(1, 5), func(c state.Core) int { return c.Level })
	check("Status", func(c *state.Core, n int) { c.Status = n }, between(0, 2), func(c state.Core) int { return c.Status })
	check("Page", func(c *state.Core, n int) { c.Page = n }, between(0, 3), func(c state.Core) int { return c.Page })
	check("Pages", func(c *state.Core, n int) { c.Pages = n }, between(1, 16), func(c state.Core) int { return c.Pages })
	check("Page of so many", func(c *state.Core, n int) { c.Page, c.Pages = 99, n }, func(n int) int { return among(n, 1, 16) - 1 }, func(c state.Core) int { return c.Page })
	check("Single", func(c *state.Core, n int) { c.Cursor.Sets.Single = n }, or([]int{2, 3}, 0), func(c state.Core) int { return c.Cursor.Sets.Single })
	check("GL", func(c *state.Core, n int) { c.Cursor.Sets.GL = n }, or([]int{0, 1, 2, 3}, 0), func(c state.Core) int { return c.Cursor.Sets.GL })
	check("GR", func(c *state.Core, n int) { c.Cursor.Sets.GR = n }, or([]int{0, 1, 2, 3}, 2), func(c state.Core) int { return c.Cursor.Sets.GR })
	check("G2", func(c *state.Core, n int) { c.Cursor.Sets.G[2] = n }, func(n int) int { return n }, func(c state.Core) int { return c.Cursor.Sets.G[2] })
	for bits := range 256 {
		c := clean
		c.Cursor.Rend = api.Rend(bits)
		if got := c.Clean().Cursor.Rend; got != api.Rend(bits%32) {
			t.Errorf("P19.1: the rendition %d counts as %d", bits, got)
		}
	}
	for x := range 32 {
		c := clean
		c.Modes = 1 << x
		if got := c.Clean().Modes; got != 1<<x&(1<<17-1) {
			t.Errorf("P19.1: the modes %d count as %d", c.Modes, got)
		}
	}
}

func TestCleanFrames(t *testing.T) {
	for _, x := range []struct {
		page, margins, whole, inner api.Box
	}{
		{api.Box{}, api.Box{}, api.Box{Bottom: 1, Right: 1}, api.Box{Bottom: 1, Right: 1}},
		{api.Box{Top: 2, Left: 3, Bottom: 5, Right: 6}, api.Box{Bottom: 2, Right: 2}, api.Box{Bottom: 5, Right: 6}, api.Box{Bottom: 2, Right: 2}},
		{api.Box{Bottom: 5, Right: 6}, api.Box{Top: -3, Left: -2, Bottom: 9, Right: 4}, api.Box{Bottom: 5, Right: 6}, api.Box{Bottom: 5, Right: 4}},
		{api.Box{Bottom: 5, Right: 6}, api.Box{Top: 5, Left: 0, Bottom: 9, Right: 4}, api.Box{Bottom: 5, Right: 6}, api.Box{Bottom: 5, Right: 6}},
		{api.Box{Bottom: -5, Right: 6}, api.Box{Left: 2, Bottom: 9, Right: 4}, api.Box{Bottom: 1, Right: 6}, api.Box{Left: 2, Bottom: 1, Right: 4}},
	} {
		c := full()
		c.Frame = curs.Frame{Page: x.page, Margins: x.margins}
		if got := c.Clean().Frame; got != (curs.Frame{Page: x.whole, Margins: x.inner}) {
			t.Errorf("P19.1: of the page %v and the margins %v Clean makes %v", x.page, x.margins, got)
		}
	}
}

func TestCursor(t *testing.T) {
	for _, c := range cores(192, 30000) {
		if got, want := c.Cursor_(), told(c); got != want {
			t.Fatalf("P19.2: %+v: Cursor_ = %q, not %q", c, got, want)
		}
	}
}

func TestCursorExamples(t *testing.T) {
	german, _ := iso.New().Designate(0, false, "K")
	latin, _ := iso.New().Designate(1, true, "A")
	latin, _ = latin.Designate(3, true, "A")
	for _, x := range []struct {
		change func(c *state.Core)
		want   string
	}{
		{func(c *state.Core) {}, "1;1;1;@;@;@;0;2;@;BB%5%5"},
		{func(c *state.Core) { c.Cursor.Row = 23 }, "24;1;1;@;@;@;0;2;@;BB%5%5"},
		{func(c *state.Core) { c.Cursor.Row = 24 }, "24;1;1;@;@;@;0;2;@;BB%5%5"},
		{func(c *state.Core) { c.Cursor.Col = 79 }, "1;80;1;@;@;@;0;2;@;BB%5%5"},
		{func(c *state.Core) { c.Page = 2 }, "1;1;3;@;@;@;0;2;@;BB%5%5"},
		{func(c *state.Core) { c.Cursor.Rend = api.Bold }, "1;1;1;A;@;@;0;2;@;BB%5%5"},
		{func(c *state.Core) { c.Cursor.Rend = 0xFF }, "1;1;1;_;@;@;0;2;@;BB%5%5"},
		{func(c *state.Core) { c.Cursor.Kept = true }, "1;1;1;@;A;@;0;2;@;BB%5%5"},
		{func(c *state.Core) { c.Cursor.Origin = true }, "1;1;1;@;@;A;0;2;@;BB%5%5"},
		{func(c *state.Core) { c.Cursor.Sets.Single = 2 }, "1;1;1;@;@;B;0;2;@;BB%5%5"},
		{func(c *state.Core) { c.Cursor.Sets.Single = 3 }, "1;1;1;@;@;D;0;2;@;BB%5%5"},
		{func(c *state.Core) { c.Cursor.Sets.Single = 1 }, "1;1;1;@;@;@;0;2;@;BB%5%5"},
		{func(c *state.Core) { c.Cursor.Wrap = true }, "1;1;1;@;@;H;0;2;@;BB%5%5"},
		{func(c *state.Core) { c.Cursor.Sets.GL = 3 }, "1;1;1;@;@;@;3;2;@;BB%5%5"},
		{func(c *state.Core) { c.Cursor.Sets.GR = 1 }, "1;1;1;@;@;@;0;1;@;BB%5%5"},
		{func(c *state.Core) { c.Cursor.Sets = german }, "1;1;1;@;@;@;0;2;@;KB%5%5"},
		{func(c *state.Core) { c.Cursor.Sets = latin }, "1;1;1;@;@;@;0;2;J;BA%5A"},
		// A place is told on the page, also where it counts from the margins.
		{func(c *state.Core) {
			c.Frame.Margins = api.Box{Top: 4, Left: 6, Bottom: 9, Right: 20}
			c.Cursor.Pos, c.Cursor.Origin = api.Pos{Row: 5, Col: 7}, true
		}, "6;8;1;@;@;A;0;2;@;BB%5%5"},
	} {
		c := state.New(24, 80, 3)
		x.change(&c)
		if got := c.Cursor_(); got != x.want {
			t.Errorf("P19.2: Cursor_ = %q, not %q", got, x.want)
		}
	}
	if got := full().Cursor_(); got != "4;8;3;Q;A;K;1;3;B;KA0%6" {
		t.Errorf("P19.2: Cursor_ = %q", got)
	}
}

func checkSetCursor(t *testing.T, c state.Core, report string) bool {
	t.Helper()
	want, ok := brought(c, report)
	e := api.OK
	if !ok {
		e = api.ErrForm
	}
	if got, errno := c.SetCursor(report); got != want || errno != e {
		t.Fatalf("P19.2: %+v: SetCursor(%q) = %+v, %d, not %+v, %d", c, report, got, errno, want, e)
	}
	return ok
}

func TestSetCursorExamples(t *testing.T) {
	for _, x := range []struct {
		report string
		ok     bool
	}{
		{"1;1;1;@;@;@;0;2;@;BB%5%5", true}, {"6;9;4;_;A;K;3;1;J;KAKA", true}, {"0;0;0;@;@;@;0;2;@;BB%5%5", true}, {"7;10;5;@;@;@;0;2;@;BB%5%5", true},
		{"65536;99999999999999999999;4294967297;@;@;@;0;2;@;BB%5%5", true}, {"0000000000000000000003;002;01;A;@;D;03;0001;@;BB%5%5", true},
		// Other ids than those that are told designate, too.
		{"1;1;1;@;@;@;0;2;@;2EfQ", true}, {"1;1;1;@;@;M;0;2;@;BB%5%5", true}, {"1;1;1;@;@;K;0;2;@;BB%5%5", true},
		{"1;1;1;@;@;F;0;2;@;BB%5%5", false}, {"1;1;1;@;@;O;0;2;@;BB%5%5", false}, {"1;1;1;@;@;G;0;2;@;BB%5%5", false}, {"1;1;1;@;@;N;0;2;@;BB%5%5", false},
		{"", false}, {";;;;;;;;;", false}, {"1;1;1;@;@;@;0;2;@", false}, {"1;1;1;@;@;@;0;2;@;", false}, {"1;1;1;@;@;@;0;2;@;BB%5%5;", false}, {"1;1;1;@;@;@;0;2;@;BB%5%5;1", false},
		{";1;1;1;@;@;@;0;2;@;BB%5%5", false}, {"1;1;1;@;@;@;0;2;@;BB;%5%5", false}, {";1;1;@;@;@;0;2;@;BB%5%5", false}, {"1;;1;@;@;@;0;2;@;BB%5%5", false}, {"1;1;;@;@;@;0;2;@;BB%5%5", false},
		{"1;1;1;;@;@;0;2;@;BB%5%5", false}, {"1;1;1;@;;@;0;2;@;BB%5%5", false}, {"1;1;1;@;@;;0;2;@;BB%5%5", false}, {"1;1;1;@;@;@;;2;@;BB%5%5", false}, {"1;1;1;@;@;@;0;;@;BB%5%5", false}, {"1;1;1;@;@;@;0;2;;BB%5%5", false},
		{"-1;1;1;@;@;@;0;2;@;BB%5%5", false}, {"+1;1;1;@;@;@;0;2;@;BB%5%5", false}, {" 1;1;1;@;@;@;0;2;@;BB%5%5", false}, {"1;1;1;@;@;@;0;2;@;BB%5%5 ", false}, {"1;1;1;@;@;@;0;2;@;BB%5%5\n", false}, {"1;x;1;@;@;@;0;2;@;BB%5%5", false},
		{"1;1;1;@@;@;@;0;2;@;BB%5%5", false}, {"1;1;1;@;AA;@;0;2;@;BB%5%5", false}, {"1;1;1;@;@;@@;0;2;@;BB%5%5", false}, {"1;1;1;@;@;@;0;2;@@;BB%5%5", false},
		{"1;1;1;?;@;@;0;2;@;BB%5%5", false}, {"1;1;1;`;@;@;0;2;@;BB%5%5", false}, {"1;1;1;@;B;@;0;2;@;BB%5%5", false}, {"1;1;1;@;?;@;0;2;@;BB%5%5", false}, {"1;1;1;@;@;P;0;2;@;BB%5%5", false}, {"1;1;1;@;@;?;0;2;@;BB%5%5", false},
		{"1;1;1;@;@;@;4;2;@;BB%5%5", false}, {"1;1;1;@;@;@;0;0;@;BB%5%5", false}, {"1;1;1;@;@;@;0;4;@;BB%5%5", false}, {"1;1;1;@;@;@;65536;2;@;BB%5%5", false}, {"1;1;1;@;@;@;4294967296;2;@;BB%5%5", false}, {"1;1;1;@;@;@;0;65538;@;BB%5%5", false},
		{"1;1;1;@;@;@;0;2;P;BB%5%5", false}, {"1;1;1;@;@;@;0;2;?;BB%5%5", false}, {"1;1;1;@;@;@;0;2;A;AB%5%5", false}, {"1;1;1;@;@;@;0;2;B;BB%5%5", false}, {"1;1;1;@;@;@;0;2;@;BB%5", false}, {"1;1;1;@;@;@;0;2;@;BB%5%", false},
		{"1;1;1;@;@;@;0;2;@;BB%5%5B", false}, {"1;1;1;@;@;@;0;2;@;BB%5x", false}, {"1;1;1;\xC0;@;@;0;2;@;BB%5%5", false}, {"1;1;1;é;@;@;0;2;@;BB%5%5", false}, {"4;8;3;Q;A;K;1;3;B;KA0%6", true},
	} {
		if ok := checkSetCursor(t, full(), x.report); ok != x.ok {
			t.Errorf("P19.2: SetCursor(%q): %v is asked for", x.report, x.ok)
		}
		checkSetCursor(t, state.New(24, 80, 3), x.report)
		checkSetCursor(t, state.Core{}, x.report)
	}
	got, e := state.New(24, 80, 3).SetCursor("5;99;0;C;A;M;1;3;B;0A%5K")
	want := state.New(24, 80, 3)
	want.Cursor = curs.Cursor{Pos: api.Pos{Row: 4, Col: 79}, Rend: api.Bold | api.Under, Kept: true, Wrap: true, Origin: true, Sets: iso.State{G: [4]int{charset.Special, charset.Latin, charset.Supplemental, charset.German}, GL: 1, GR: 3, Single: 3}}
	if got != want || e != api.OK {
		t.Errorf("P19.2: SetCursor = %+v, %d, not %+v", got, e, want)
	}
}

// Of reports that are right each byte is left out, doubled, and made every other one.
func TestSetCursorOfEveryByte(t *testing.T) {
	right := 0
	for _, report := range []string{"1;1;1;@;@;@;0;2;@;BB%5%5", "4;80;3;Q;A;K;1;3;B;KA0%6", "12;6;2;_;@;E;3;1;N;BAAA"} {
		for i := range len(report) {
			checkSetCursor(t, full(), report[:i])
			checkSetCursor(t, full(), report[:i]+report[i+1:])
			checkSetCursor(t, full(), report[:i]+report[i:i+1]+report[i:])
			for c := range 256 {
				b := string([]byte{byte(c)})
				if checkSetCursor(t, full(), report[:i]+b+report[i+1:]) {
					right++
				}
				checkSetCursor(t, full(), report[:i]+b+report[i:])
			}
		}
	}
	if right < 100 {
		t.Errorf("P19.2: %d of the reports were right", right)
	}
}

// All bytes in the fields that are bits, all sizes and small numbers in the others.
func TestSetCursorOfEveryField(t *testing.T) {
	for c := range 256 {
		for field := range 10 {
			fields := []string{"2", "3", "2", "@", "@", "@", "0", "2", "@", "BB%5%5"}
			fields[field] = string([]byte{byte(c)})
			checkSetCursor(t, full(), strings.Join(fields, ";"))
			fields[field] = strconv.Itoa(c)
			checkSetCursor(t, full(), strings.Join(fields, ";"))
			fields[field] += fields[field]
			checkSetCursor(t, state.New(500, 500, 16), strings.Join(fields, ";"))
		}
	}
	for size := range 16 {
		for _, ids := range []string{"BB%5%5", "AAAA", "BAAA", "BABA", "%5%5%5%5", "BBAA", "BBBA", "0AKA", "A%5A0", ""} {
			checkSetCursor(t, full(), fmt.Sprintf("1;2;3;@;@;@;1;1;%c;%s", 0x40+size, ids))
		}
	}
}

func TestSetCursorInAnyCore(t *testing.T) {
	for _, c := range cores(193, 3000) {
		for _, report := range []string{"1;1;1;@;@;@;0;2;@;BB%5%5", "65535;70000;9;Q;A;K;1;3;B;KA0%6", "0;0;0;_;@;L;3;1;N;BAAA", "3;2;1;@;@;F;0;2;@;BB%5%5", ""} {
			checkSetCursor(t, c, report)
		}
	}
}

// What was told is brought back in any other core of that page size and of as many pages; nothing else is changed.
func TestCursorIsBroughtBack(t *testing.T) {
	rnd := rand.New(rand.NewSource(194))
	for range 20000 {
		rows, cols, pages := 1+rnd.Intn(500), 1+rnd.Intn(500), 1+rnd.Intn(16)
		from, into := able(rnd, rows, cols, pages), wild(rnd)
		from.Cursor.Pos = api.Pos{Row: rnd.Intn(rows), Col: rnd.Intn(cols)}
		into.Frame.Page, into.Pages = from.Frame.Page, pages
		want := cleaned(into)
		want.Cursor, want.Page = cleaned(from).Cursor, cleaned(from).Page
		got, e := into.SetCursor(from.Cursor_())
		if got != want || e != api.OK {
			t.Fatalf("P19.2: %q in %+v: %+v, %d, not %+v", from.Cursor_(), into, got, e, want)
		}
		if got.Cursor_() != from.Cursor_() {
			t.Fatalf("P19.2: %q, brought back, is told as %q", from.Cursor_(), got.Cursor_())
		}
	}
}

// settings are, by the document's table, the numbers of each setting.
func settings(c state.Core) map[string][]int {
	c = cleaned(c)
	m := map[string][]int{
		"m":   {0},
		"r":   {c.Frame.Margins.Top + 1, c.Frame.Margins.Bottom},
		"s":   {c.Frame.Margins.Left + 1, c.Frame.Margins.Right},
		"\"q": {0},
		"\"p": {60 + c.Level, 1},
		"*x":  {2},
		"t":   {c.Frame.Page.Bottom},
		"$|":  {c.Frame.Page.Right},
		"$~":  {c.Status},
		"$}":  {0},
	}
	for _, x := range []struct {
		bit api.Rend
		n   int
	}{{api.Bold, 1}, {api.Under, 4}, {api.Blink, 5}, {api.Reverse, 7}, {api.Hidden, 8}} {
		if c.Cursor.Rend&x.bit != 0 {
			m["m"] = append(m["m"], x.n)
		}
	}
	if c.Cursor.Kept {
		m["\"q"][0] = 1
	}
	if c.Eight {
		m["\"p"][1] = 0
	}
	if c.Stream {
		m["*x"][0] = 1
	}
	if c.Below {
		m["$}"][0] = 1
	}
	return m
}

func TestSetting(t *testing.T) {
	for _, c := range cores(195, 10000) {
		for id, numbers := range settings(c) {
			var texts []string
			for _, n := range numbers {
				texts = append(texts, strconv.Itoa(min(n, 65535)))
			}
			want := strings.Join(texts, ";") + id
			if got, ok := c.Setting(id); got != want || !ok {
				t.Fatalf("P19.3: %+v: Setting(%q) = %q, %v, not %q", c, id, got, ok, want)
			}
		}
	}
}

func TestSettingExamples(t *testing.T) {
	for _, x := range []struct {
		id, begins, full string
	}{
		{"m", "0m", "0;1;8m"}, {"r", "1;24r", "2;5r"}, {"s", "1;80s", "3;8s"}, {"\"q", "0\"q", "1\"q"}, {"\"p", "65;1\"p", "63;0\"p"},
		{"*x", "2*x", "1*x"}, {"t", "24t", "6t"}, {"$|", "80$|", "9$|"}, {"$~", "0$~", "2$~"}, {"$}", "0$}", "1$}"},
	} {
		if got, ok := state.New(24, 80, 3).Setting(x.id); got != x.begins || !ok {
			t.Errorf("P19.3: Setting(%q) = %q, %v, not %q", x.id, got, ok, x.begins)
		}
		if got, ok := full().Setting(x.id); got != x.full || !ok {
			t.Errorf("P19.3: Setting(%q) = %q, %v, not %q", x.id, got, ok, x.full)
		}
	}
}

// A setting, behind 1B 5B, is the one sequence of its id.
func TestSettingIsOneSequence(t *testing.T) {
	for _, c := range cores(196, 300) {
		for id, numbers := range settings(c) {
			text, _ := c.Setting(id)
			tokens := parser.Split([]byte("\x1B[" + text))
			for i, n := range numbers {
				numbers[i] = min(n, 65535)
			}
			if len(tokens) != 1 || token.Id(tokens[0]) != id || !slices.Equal(tokens[0].Params, numbers) {
				t.Fatalf("P19.3: %q is %v", text, tokens)
			}
		}
	}
}

// No other id has a setting.
func TestSettingOfNone(t *testing.T) {
	ids := []string{"", "$$|", "$|$|", "1m", "0;1m", "\"pp", "m\x00", "*xx", "$~$", "DECSTBM", "\x1B[m", "$\\|"}
	for a := range 256 {
		ids = append(ids, string([]byte{byte(a)}))
		for b := range 256 {
			ids = append(ids, string([]byte{byte(a), byte(b)}))
		}
	}
	known := settings(full())
	found := 0
	for _, id := range ids {
		if known[id] != nil {
			found++
			continue
		}
		if got, ok := full().Setting(id); got != "" || ok {
			t.Errorf("P19.3: Setting(%q) = %q, %v", id, got, ok)
		}
	}
	if found != 10 {
		t.Errorf("P19.3: %d ids with a setting", found)
	}
}

func TestReport(t *testing.T) {
	for _, c := range cores(197, 30000) {
		if got, want := c.Report(), all(c); got != want {
			t.Fatalf("P19.4: %+v: Report = %q, not %q", c, got, want)
		}
	}
}

func TestReportExamples(t *testing.T) {
	if got := state.New(24, 80, 3).Report(); got != "5;0;0;2948;0;0;0;0;0;24;80;0" {
		t.Errorf("P19.4: Report = %q", got)
	}
	if got := full().Report(); got != "3;1;31;1147;1;2;1;1;2;5;8;1" {
		t.Errorf("P19.4: Report = %q", got)
	}
	if got := (state.Core{}).Report(); got != "1;0;0;0;0;0;0;0;0;1;1;0" {
		t.Errorf("P19.4: Report = %q", got)
	}
}

func checkRestore(t *testing.T, c state.Core, report string) bool {
	t.Helper()
	want, ok := restored(c, report)
	e := api.OK
	if !ok {
		e = api.ErrForm
	}
	if got, errno := c.Restore(report); got != want || errno != e {
		t.Fatalf("P19.4: %+v: Restore(%q) = %+v, %d, not %+v, %d", c, report, got, errno, want, e)
	}
	return ok
}

func TestRestoreExamples(t *testing.T) {
	for _, x := range []struct {
		report string
		ok     bool
	}{
		{"5;0;0;2948;0;0;0;0;0;6;9;0", true}, {"1;1;31;4095;1;2;1;5;8;6;9;1", true}, {"5;;;;;;;;;6;9;", true}, {"05;00;0;02948;0;0;0;0;0;0006;9;0", true}, {"3;1;31;1147;1;2;1;1;2;5;8;1", true},
		// Below without a status line of the host's is taken as it is; so is a mode that isn't there at the level, and a mode beside the cursor's own Origin.
		{"5;0;0;2948;0;0;1;0;0;6;9;0", true}, {"5;0;0;2948;0;1;1;0;0;6;9;0", true}, {"1;0;31;4095;0;0;0;0;0;6;9;0", true}, {"5;0;0;64;0;0;0;0;0;6;9;0", true}, {"5;0;0;0;0;0;0;0;0;6;9;1", true},
		{"0;0;0;2948;0;0;0;0;0;6;9;0", false}, {"6;0;0;2948;0;0;0;0;0;6;9;0", false}, {"9;0;0;2948;0;0;0;0;0;6;9;0", false}, {"5;2;0;2948;0;0;0;0;0;6;9;0", false}, {"5;0;32;0;0;0;0;0;0;6;9;0", false}, {"5;0;0;4096;0;0;0;0;0;6;9;0", false},
		{"5;0;65535;65535;0;0;0;0;0;6;9;0", false}, {"5;0;0;2948;2;0;0;0;0;6;9;0", false}, {"5;0;0;2948;0;3;0;0;0;6;9;0", false}, {"5;0;0;2948;0;0;2;0;0;6;9;0", false}, {"5;0;0;2948;0;0;0;0;0;6;9;2", false},
		{"5;0;0;2948;0;0;0;6;0;6;9;0", false}, {"5;0;0;2948;0;0;0;3;0;3;9;0", false}, {"5;0;0;2948;0;0;0;4;0;3;9;0", false}, {"5;0;0;2948;0;0;0;0;9;6;9;0", false}, {"5;0;0;2948;0;0;0;0;5;6;5;0", false}, {"5;0;0;2948;0;0;0;0;0;7;9;0", false},
		{"5;0;0;2948;0;0;0;0;0;6;10;0", false}, {"5;0;0;2948;0;0;0;0;0;0;0;0", false}, {"5;0;0;2948;0;0;0;0;0;24;80;0", false}, {"5;0;0;2948;0;0;0;0;0;65536;9;0", false},
		{"", false}, {"5", false}, {";;;;;;;;;;;", false}, {"5;0;0;2948;0;0;0;0;0;6;9", false}, {"5;0;0;2948;0;0;0;0;0;6;9;0;", false}, {"5;0;0;2948;0;0;0;0;0;6;9;0;0", false}, {";5;0;0;2948;0;0;0;0;0;6;9;0", false},
		{"5;0;0;2948;0;0;0;0;0;6;9;-1", false}, {"5;0;0;2948;0;0;0;0;0;6;9;0 ", false}, {"+5;0;0;2948;0;0;0;0;0;6;9;0", false}, {"5;0;0;2948;0;0;0;0;0;6;9;x", false}, {"5,0,0,2948,0,0,0,0,0,6,9,0", false},
		{"5;0;0;2948;0;0;0;0;0;6;9;0" + strings.Repeat(";0", 30), false}, {"5;4294967296;0;2948;0;0;0;0;0;6;9;0", false},
	} {
		if ok := checkRestore(t, full(), x.report); ok != x.ok {
			t.Errorf("P19.4: Restore(%q): %v is asked for", x.report, x.ok)
		}
		checkRestore(t, state.New(24, 80, 3), x.report)
		checkRestore(t, state.Core{}, x.report)
	}
	got, e := full().Restore("4;0;16;129;0;1;0;2;3;4;5;0")
	want := full()
	want.Level, want.Eight, want.Modes, want.Stream, want.Status, want.Below = 4, false, 16<<12|129, false, 1, false
	want.Frame.Margins, want.Cursor.Origin = api.Box{Top: 2, Left: 3, Bottom: 4, Right: 5}, false
	if got != want || e != api.OK {
		t.Errorf("P19.4: Restore = %+v, %d, not %+v", got, e, want)
	}
}

// Of reports that are right each number is made many others, and each byte every other one.
func TestRestoreOfEveryNumber(t *testing.T) {
	right := 0
	for _, report := range []string{"5;0;0;2948;0;0;0;0;0;6;9;0", "1;1;31;4095;1;2;1;5;8;6;9;1", "3;0;2;7;0;1;1;1;2;3;4;1"} {
		for i := range len(report) {
			checkRestore(t, full(), report[:i])
			checkRestore(t, full(), report[:i]+report[i+1:])
			for c := range 256 {
				b := string([]byte{byte(c)})
				checkRestore(t, full(), report[:i]+b+report[i:])
				if checkRestore(t, full(), report[:i]+b+report[i+1:]) {
					right++
				}
			}
		}
		for field := range 12 {
			fields := strings.Split(report, ";")
			for _, n := range []string{"", "0", "1", "2", "3", "4", "5", "6", "7", "8", "9", "10", "11", "16", "31", "32", "33", "255", "256", "4095", "4096", "4097", "65535", "65536", "65537", "4294967296", "4294967297", "18446744073709551617"} {
				fields[field] = n
				if checkRestore(t, full(), strings.Join(fields, ";")) {
					right++
				}
			}
		}
	}
	if right < 100 {
		t.Errorf("P19.4: %d of the reports were right", right)
	}
}

func TestRestoreOfEveryMargins(t *testing.T) {
	c := state.New(3, 4, 2)
	for top := range 5 {
		for bottom := range 5 {
			for left := range 6 {
				for right := range 6 {
					checkRestore(t, c, fmt.Sprintf("5;0;0;2948;0;0;0;%d;%d;%d;%d;0", top, left, bottom, right))
				}
			}
		}
	}
}

// All sets of modes are told and brought back.
func TestRestoreOfEveryModes(t *testing.T) {
	c := state.New(3, 4, 2)
	for m := mode.Modes(0); m < 1<<17; m++ {
		c.Modes = m
		got, e := full().Restore(c.Report())
		if e != api.OK || got.Modes != m {
			t.Fatalf("P19.4: of the modes %d: %d, %d", m, got.Modes, e)
		}
	}
}

func TestRestoreInAnyCore(t *testing.T) {
	for _, c := range cores(198, 3000) {
		for _, report := range []string{"5;0;0;2948;0;0;0;0;0;1;1;0", "2;1;5;9;1;2;0;1;1;3;4;1", "5;0;0;2948;0;0;0;0;0;65535;65535;0", "9;0;0;2948;0;0;0;0;0;1;1;0", ""} {
			checkRestore(t, c, report)
		}
	}
}

// What was told is brought back in any other core of that page size; nothing else is changed.
func TestReportIsBroughtBack(t *testing.T) {
	rnd := rand.New(rand.NewSource(199))
	for range 20000 {
		rows, cols := 1+rnd.Intn(9), 1+rnd.Intn(9)
		from, into := wild(rnd), wild(rnd)
		from.Frame.Page = api.Box{Bottom: rows, Right: cols}
		into.Frame.Page = from.Frame.Page
		told, want := cleaned(from), cleaned(into)
		want.Level, want.Eight, want.Modes, want.Stream, want.Status, want.Below = told.Level, told.Eight, told.Modes, told.Stream, told.Status, told.Below
		want.Frame.Margins, want.Cursor.Origin = told.Frame.Margins, told.Cursor.Origin
		got, e := into.Restore(from.Report())
		if got != want || e != api.OK {
			t.Fatalf("P19.4: %q in %+v: %+v, %d, not %+v", from.Report(), into, got, e, want)
		}
		if got.Report() != from.Report() {
			t.Fatalf("P19.4: %q, brought back, is told as %q", from.Report(), got.Report())
		}
	}
}

// A report is as long as it is: none is too long to be answered.
func TestLongReports(t *testing.T) {
	for _, report := range []string{strings.Repeat(";", 1<<20), strings.Repeat("9", 1<<20), strings.Repeat("1;", 1<<19), strings.Repeat("0", 1<<20) + "5;0;0;2948;0;0;0;0;0;6;9;0", strings.Repeat("0", 1<<20) + "1;1;1;@;@;@;0;2;@;BB%5%5", "1;1;1;@;@;@;0;2;@;" + strings.Repeat("B", 1<<20)} {
		checkSetCursor(t, full(), report)
		checkRestore(t, full(), report)
	}
}
