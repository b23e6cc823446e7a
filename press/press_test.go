package press_test

import (
	"math"
	"math/rand"
	"slices"
	"strings"
	"testing"

	"phosphor/api"
	"phosphor/book"
	"phosphor/charset"
	"phosphor/curs"
	"phosphor/iso"
	"phosphor/page"
	"phosphor/press"
)

var blank = api.Cell{Glyph: 32}

// model tells by the document's words what a page has, and where the cursor is.
type model struct {
	cells [][]api.Cell
	sizes []int
	in    api.Box // the margins, as they are taken
	c     curs.Cursor
}

func (m *model) rows() int { return len(m.cells) }

func (m *model) cols() int { return len(m.cells[0]) }

// held are the margins on a page: what of them is no place of it is left out, place by place; all of it, if nothing is left.
func held(rows, cols int, margins api.Box) api.Box {
	all := api.Box{Bottom: rows, Right: cols}
	in := api.Box{Top: rows, Left: cols}
	for row := range rows {
		for col := range cols {
			if row >= margins.Top && row < margins.Bottom && col >= margins.Left && col < margins.Right {
				in = api.Box{Top: min(in.Top, row), Left: min(in.Left, col), Bottom: max(in.Bottom, row+1), Right: max(in.Right, col+1)}
			}
		}
	}
	if in.Bottom == 0 {
		return all
	}
	return in
}

func (m *model) holds(row, col int) bool {
	return row >= m.in.Top && row < m.in.Bottom && col >= m.in.Left && col < m.in.Right
}

func (m *model) inside() bool {
	return m.holds(m.c.Row, m.c.Col)
}

// width is how many columns the cursor's row shows.
func (m *model) width() int {
	if m.sizes[m.c.Row] == api.Single || m.cols() == 1 {
		return m.cols()
	}
	return m.cols() / 2
}

func (m *model) fit() {
	if m.c.Col >= m.width() {
		m.c.Col = m.width() - 1
		m.c.Wrap = false
	}
}

// scroll brings to each place of the margins the cell that is so many rows and columns further on among them.
func (m *model) scroll(rows, cols int) {
	old := m.clone()
	for row := m.in.Top; row < m.in.Bottom; row++ {
		for col := m.in.Left; col < m.in.Right; col++ {
			m.cells[row][col] = blank
			if m.holds(row+rows, col+cols) {
				m.cells[row][col] = old.cells[row+rows][col+cols]
			}
		}
		if rows != 0 && m.in.Left == 0 && m.in.Right == m.cols() {
			m.sizes[row] = api.Single
			if m.holds(row+rows, 0) {
				m.sizes[row] = old.sizes[row+rows]
			}
		}
	}
}

func (m *model) index() {
	m.c.Wrap = false
	switch {
	case m.c.Row == m.in.Bottom-1 && m.inside():
		m.scroll(1, 0)
	case m.c.Row != m.in.Bottom-1 && m.c.Row < m.rows()-1:
		m.c.Row++
	}
	m.fit()
}

func (m *model) back() {
	m.c.Wrap = false
	switch {
	case m.c.Row == m.in.Top && m.inside():
		m.scroll(-1, 0)
	case m.c.Row != m.in.Top && m.c.Row > 0:
		m.c.Row--
	}
	m.fit()
}

func (m *model) aside() {
	m.c.Wrap = false
	switch {
	case m.c.Col == m.in.Left && m.inside():
		m.scroll(0, -1)
	case m.c.Col != m.in.Left && m.c.Col > 0:
		m.c.Col--
	}
	m.fit()
}

func (m *model) ahead() {
	m.c.Wrap = false
	switch {
	case m.c.Col == m.in.Right-1 && m.inside():
		m.scroll(0, 1)
	case m.c.Col != m.in.Right-1 && m.c.Col < m.cols()-1:
		m.c.Col++
	}
	m.fit()
}

func (m *model) next() {
	if m.c.Col >= m.in.Left || m.c.Origin {
		m.c.Col = m.in.Left
	} else {
		m.c.Col = 0
	}
	m.index()
}

func (m *model) glyph(w press.Ways, g rune) {
	if m.c.Wrap && w.Wrap {
		m.next()
	}
	m.fit()
	end := m.cols()
	if m.c.Col < m.in.Right {
		end = m.in.Right
	}
	end = min(end, m.width())
	row := m.cells[m.c.Row]
	if w.Insert {
		for col := end - 1; col > m.c.Col; col-- {
			row[col] = row[col-1]
		}
	}
	row[m.c.Col] = api.Cell{Glyph: g, Rend: m.c.Rend, Kept: m.c.Kept}
	m.c.Wrap = w.Wrap
	if m.c.Col+1 < end {
		m.c.Col++
		m.c.Wrap = false
	}
}

func (m *model) text(w press.Ways, text []rune) {
	m.fit()
	for _, g := range text {
		m.glyph(w, g)
	}
}

func (m *model) clone() *model {
	other := *m
	other.sizes = slices.Clone(m.sizes)
	other.cells = nil
	for _, row := range m.cells {
		other.cells = append(other.cells, slices.Clone(row))
	}
	return &other
}

// made is a page whose cells are unlike each other, with lines of these sizes, and its model.
func made(cols int, sizes []int, margins api.Box, c curs.Cursor) (*page.Page, *model) {
	rows := len(sizes)
	p, m := page.New(rows, cols), &model{sizes: slices.Clone(sizes), in: held(rows, cols, margins), c: c}
	for row := range rows {
		var cells []api.Cell
		for col := range cols {
			i := row*cols + col
			cells = append(cells, api.Cell{Glyph: rune('a' + i), Rend: api.Rend(i * 37), Kept: i%3 == 1})
		}
		m.cells = append(m.cells, cells)
		p.SetLine(row, api.Line{Cells: cells, Size: sizes[row]})
	}
	m.c.Row = min(max(c.Row, 0), rows-1)
	m.c.Col = min(max(c.Col, 0), cols-1)
	return p, m
}

// shown tells a page's glyphs and its lines' sizes, row by row.
func shown(p *page.Page) string {
	s := ""
	for row := range p.Rows() {
		for _, c := range p.Line(row).Cells {
			s += string(c.Glyph)
		}
		s += "/" + string(rune('0'+p.Line(row).Size)) + " "
	}
	return strings.TrimSuffix(s, " ")
}

// copied is a page as its model has it.
func (m *model) copied() *page.Page {
	p := page.New(m.rows(), m.cols())
	for row, cells := range m.cells {
		p.SetLine(row, api.Line{Cells: cells, Size: m.sizes[row]})
	}
	return p
}

func check(t *testing.T, promise string, p *page.Page, got curs.Cursor, m *model, doing string, args ...any) {
	t.Helper()
	if want := m.copied(); !p.Same(want) {
		t.Fatalf("%s: %s %v: the page is %s, not %s", promise, doing, args, shown(p), shown(want))
	}
	if got != m.c {
		t.Fatalf("%s: %s %v: the cursor is %v, not %v", promise, doing, args, got, m.c)
	}
}

// feeds are the calls that feed, by their names, and what the model does.
var feeds = []struct {
	name string
	call func(p *page.Page, c curs.Cursor, f curs.Frame) curs.Cursor
	tell func(m *model)
}{
	{"Index", press.Index, (*model).index},
	{"Back", press.Back, (*model).back},
	{"Next", press.Next, (*model).next},
	{"Aside", press.Aside, (*model).aside},
	{"Ahead", press.Ahead, (*model).ahead},
}

var allWays = []press.Ways{{}, {Wrap: true}, {Insert: true}, {Wrap: true, Insert: true}}

// full is a cursor of which nothing is zero: what is to stay as it is, can be told.
func full(at api.Pos, wrap, origin bool) curs.Cursor {
	return curs.Cursor{Pos: at, Rend: 0xF5, Kept: true, Wrap: wrap, Origin: origin, Sets: iso.State{G: [4]int{charset.German, charset.Latin, -5, 99}, GL: 1, GR: 3, Single: 2}}
}

// pages are small ones: how many columns, and their lines' sizes.
var pages = []struct {
	cols  int
	sizes []int
}{
	{1, []int{api.Single}},
	{1, []int{api.Wide, api.Single}},
	{4, []int{api.Single}},
	{3, []int{api.Single, api.Single, api.Single}},
	{4, []int{api.Single, api.Wide, api.Single}},
	{5, []int{api.Upper, api.Lower, api.Single}},
}

// boxes are the margins about a small page, some of which have nothing; and some that go far beyond it.
func boxes(rows, cols int) []api.Box {
	var list []api.Box
	for top := -1; top <= rows; top++ {
		for bottom := top; bottom <= rows+1; bottom++ {
			for left := -1; left <= cols; left++ {
				for right := left; right <= cols+1; right++ {
					list = append(list, api.Box{Top: top, Left: left, Bottom: bottom, Right: right})
				}
			}
		}
	}
	return append(list, api.Box{}, api.Box{Top: math.MinInt, Left: 1, Bottom: 2, Right: math.MaxInt}, api.Box{Top: math.MaxInt, Left: math.MaxInt, Bottom: math.MinInt, Right: math.MinInt})
}

// each goes through small pages, all margins and places, with Wrap or not, counting from the margins or not. The frame's Page is one of another size: it doesn't count.
func each(do func(cols int, sizes []int, f curs.Frame, c curs.Cursor)) {
	for _, x := range pages {
		rows := len(x.sizes)
		for _, margins := range boxes(rows, x.cols) {
			f := curs.Frame{Page: api.Box{Bottom: 2, Right: 99}, Margins: margins}
			for row := range rows {
				for col := range x.cols {
					for i := range 4 {
						do(x.cols, x.sizes, f, full(api.Pos{Row: row, Col: col}, i&1 != 0, i&2 != 0))
					}
				}
			}
		}
	}
}

func TestFeeds(t *testing.T) {
	each(func(cols int, sizes []int, f curs.Frame, c curs.Cursor) {
		for _, feed := range feeds {
			p, m := made(cols, sizes, f.Margins, c)
			got := feed.call(p, c, f)
			feed.tell(m)
			check(t, "P14.2", p, got, m, feed.name, cols, sizes, f.Margins, c)
		}
	})
}

func TestGlyph(t *testing.T) {
	each(func(cols int, sizes []int, f curs.Frame, c curs.Cursor) {
		for _, w := range allWays {
			p, m := made(cols, sizes, f.Margins, c)
			got := press.Glyph(p, c, f, w, 0x2500)
			m.glyph(w, 0x2500)
			check(t, "P14.1", p, got, m, "Glyph", w, cols, sizes, f.Margins, c)
		}
	})
}

func TestText(t *testing.T) {
	each(func(cols int, sizes []int, f curs.Frame, c curs.Cursor) {
		for i, text := range []string{"", "X", "XY", "VWXYZ"} {
			w := allWays[(i+c.Row+c.Col)%len(allWays)]
			p, m := made(cols, sizes, f.Margins, c)
			got := press.Text(p, c, f, w, []rune(text)...)
			m.text(w, []rune(text))
			check(t, "P14.1", p, got, m, "Text", text, w, cols, sizes, f.Margins, c)
		}
	})
}

// Cursors that aren't on the page are taken to it first.
func TestFarCursors(t *testing.T) {
	numbers := []int{math.MinInt, -1 << 32, -1, 0, 1, 2, 3, 4, 5, 1 << 32, math.MaxInt - 1, math.MaxInt}
	margins := []api.Box{{Bottom: 3, Right: 4}, {Top: 1, Left: 1, Bottom: 3, Right: 3}, {Bottom: 2, Right: 3}, {Top: 2, Left: 3, Bottom: 9, Right: 9}}
	for _, row := range numbers {
		for _, col := range numbers {
			for _, b := range margins {
				for _, sizes := range [][]int{{0, 0, 0}, {api.Wide, api.Single, api.Lower}} {
					f := curs.Frame{Margins: b}
					c := full(api.Pos{Row: row, Col: col}, true, false)
					for _, feed := range feeds {
						p, m := made(4, sizes, b, c)
						got := feed.call(p, c, f)
						feed.tell(m)
						check(t, "P14.2", p, got, m, feed.name, sizes, b, c)
					}
					for _, w := range allWays {
						p, m := made(4, sizes, b, c)
						got := press.Glyph(p, c, f, w, 'X')
						m.glyph(w, 'X')
						check(t, "P14.1", p, got, m, "Glyph", sizes, b, c)
						p, m = made(4, sizes, b, c)
						got = press.Text(p, c, f, w)
						m.text(w, nil)
						check(t, "P14.1", p, got, m, "Text of nothing", sizes, b, c)
					}
				}
			}
		}
	}
}

// Whatever the frame's Page is, the page itself counts.
func TestPageOfTheFrame(t *testing.T) {
	for _, b := range []api.Box{{}, {Bottom: 1, Right: 1}, {Top: 2, Left: 2, Bottom: 3, Right: 4}, {Bottom: 500, Right: 500}, {Top: math.MaxInt, Bottom: math.MinInt, Left: 3, Right: -3}, {Bottom: math.MaxInt, Right: math.MaxInt}} {
		for row := range 3 {
			for col := range 4 {
				f := curs.Frame{Page: b, Margins: api.Box{Top: 1, Left: 1, Bottom: 40, Right: 3}}
				c := full(api.Pos{Row: row, Col: col}, col == 3, false)
				for _, feed := range feeds {
					p, m := made(4, make([]int, 3), f.Margins, c)
					got := feed.call(p, c, f)
					feed.tell(m)
					check(t, "P14.2", p, got, m, feed.name, f, c)
				}
				p, m := made(4, make([]int, 3), f.Margins, c)
				got := press.Text(p, c, f, press.Ways{Wrap: true}, 'X', 'Y', 'Z')
				m.text(press.Ways{Wrap: true}, []rune("XYZ"))
				check(t, "P14.1", p, got, m, "Text", f, c)
			}
		}
	}
}

// Whatever a glyph, a rendition and a keeping are, the cell gets them as they are.
func TestCellsOfGlyphs(t *testing.T) {
	for _, g := range []rune{'a', 0, 32, 127, 0x2500, 0xFFFD, 0x10FFFF, 0x110000, -1, math.MinInt32, math.MaxInt32} {
		for _, r := range []api.Rend{0, api.Bold, api.Under | api.Hidden, 31, 32, 255} {
			for _, kept := range []bool{false, true} {
				p := page.New(2, 3)
				c := curs.Cursor{Pos: api.Pos{Row: 1, Col: 1}, Rend: r, Kept: kept}
				press.Glyph(p, c, curs.Frame{}, press.Ways{}, g)
				if got, want := p.At(c.Pos), (api.Cell{Glyph: g, Rend: r, Kept: kept}); got != want {
					t.Errorf("P14.1: Glyph puts %v, not %v", got, want)
				}
			}
		}
	}
}

func TestExamples(t *testing.T) {
	whole := curs.Frame{Page: api.Box{Bottom: 2, Right: 3}, Margins: api.Box{Bottom: 2, Right: 3}}
	for _, x := range []struct {
		text  string
		w     press.Ways
		shown string
		at    api.Pos
		wrap  bool
	}{
		{"", press.Ways{Wrap: true}, "   /0    /0", api.Pos{}, false},
		{"ab", press.Ways{Wrap: true}, "ab /0    /0", api.Pos{Col: 2}, false},
		{"abc", press.Ways{Wrap: true}, "abc/0    /0", api.Pos{Col: 2}, true},
		{"abc", press.Ways{}, "abc/0    /0", api.Pos{Col: 2}, false},
		{"abcd", press.Ways{Wrap: true}, "abc/0 d  /0", api.Pos{Row: 1, Col: 1}, false},
		{"abcd", press.Ways{}, "abd/0    /0", api.Pos{Col: 2}, false},
		{"abcdefg", press.Ways{Wrap: true}, "def/0 g  /0", api.Pos{Row: 1, Col: 1}, false},
		{"abcdef", press.Ways{Wrap: true}, "abc/0 def/0", api.Pos{Row: 1, Col: 2}, true},
	} {
		p := page.New(2, 3)
		got := press.Text(p, curs.New(), whole, x.w, []rune(x.text)...)
		want := curs.New()
		want.Pos, want.Wrap = x.at, x.wrap
		if shown(p) != x.shown || got != want {
			t.Errorf("P14.1: an example: Text %q %v: %s, %v", x.text, x.w, shown(p), got)
		}
	}
}

// What is pushed on goes no further than the margins, or the width of the row.
func TestInsertEnds(t *testing.T) {
	margins := api.Box{Left: 1, Bottom: 1, Right: 4}
	for _, x := range []struct {
		col, size int
		shown     string
	}{
		{0, api.Single, "XabcefGH"}, {1, api.Single, "aXbcefGH"}, {3, api.Single, "abcXefGH"},
		{4, api.Single, "abcdXefG"}, {7, api.Single, "abcdefGX"},
		{0, api.Wide, "XabcefGH"}, {3, api.Wide, "abcXefGH"}, {7, api.Wide, "abcXefGH"},
	} {
		p := page.New(1, 8)
		l := p.Line(0)
		for i, g := range "abcdefGH" {
			l.Cells[i].Glyph = g
		}
		l.Size = x.size
		p.SetLine(0, l)
		press.Glyph(p, curs.Cursor{Pos: api.Pos{Col: x.col}}, curs.Frame{Margins: margins}, press.Ways{Insert: true}, 'X')
		if got, want := shown(p), x.shown+"/"+string(rune('0'+x.size)); got != want {
			t.Errorf("P14.1: a glyph is inserted at column %d: %s, not %s", x.col, got, want)
		}
	}
}

// The next line is fed ahead of the cursor's coming to the width; of a text that comes first, and ends Wrap.
func TestWrapBeyondTheWidth(t *testing.T) {
	c := curs.Cursor{Pos: api.Pos{Col: 5}, Wrap: true}
	p := page.New(2, 6)
	p.SetLine(0, api.Line{Size: api.Wide})
	if got := press.Glyph(p, c, curs.Frame{}, press.Ways{Wrap: true}, 'X'); got.Pos != (api.Pos{Row: 1, Col: 1}) || shown(p) != "      /1 X     /0" {
		t.Errorf("P14.1: Glyph beyond the width: %s, %v", shown(p), got)
	}
	p = page.New(2, 6)
	p.SetLine(0, api.Line{Size: api.Wide})
	if got := press.Text(p, c, curs.Frame{}, press.Ways{Wrap: true}, 'X'); got.Pos != (api.Pos{Col: 2}) || !got.Wrap || shown(p) != "  X   /1       /0" {
		t.Errorf("P14.1: Text beyond the width: %s, %v", shown(p), got)
	}
}

// Lines that are fed take their sizes along, where the margins have all columns, and the cursor comes to the width of the one that it gets.
func TestWidthsOfLinesThatMove(t *testing.T) {
	for _, x := range []struct {
		margins api.Box
		sizes   []int
		call    func(p *page.Page, c curs.Cursor, f curs.Frame) curs.Cursor
		row     int
		shown   string
		col     int
	}{
		{api.Box{Bottom: 3, Right: 6}, []int{0, 1, 2}, press.Index, 2, "ghijkl/1 mnopqr/2       /0", 5},
		{api.Box{Bottom: 2, Right: 6}, []int{0, 0, 1}, press.Index, 2, "abcdef/0 ghijkl/0 mnopqr/1", 2},
		{api.Box{Bottom: 3, Right: 6}, []int{0, 1, 2}, press.Index, 0, "abcdef/0 ghijkl/1 mnopqr/2", 2},
		{api.Box{Bottom: 3, Right: 6}, []int{1, 0, 0}, press.Back, 0, "      /0 abcdef/1 ghijkl/0", 5},
		{api.Box{Bottom: 3, Left: 1, Right: 6}, []int{1, 0, 0}, press.Back, 0, "a     /1 gbcdef/0 mhijkl/0", 2},
	} {
		p, _ := made(6, x.sizes, x.margins, curs.Cursor{})
		got := x.call(p, curs.Cursor{Pos: api.Pos{Row: x.row, Col: 5}}, curs.Frame{Margins: x.margins})
		if shown(p) != x.shown || got.Col != x.col {
			t.Errorf("P14.2: %v, sizes %v: %s, %v", x.margins, x.sizes, shown(p), got)
		}
	}
}

// unchanged tells whether no place but the margins' ones, and those of one row (none: -1), is another one behind a call.
func unchanged(before, after *page.Page, in api.Box, but int) bool {
	for row := range before.Rows() {
		for col := range before.Cols() {
			at := api.Pos{Row: row, Col: col}
			inside := row >= in.Top && row < in.Bottom && col >= in.Left && col < in.Right
			if !inside && row != but && before.At(at) != after.At(at) {
				return false
			}
		}
		if (row < in.Top || row >= in.Bottom) && before.Line(row).Size != after.Line(row).Size {
			return false
		}
	}
	return true
}

func TestNothingOutsideTheMargins(t *testing.T) {
	each(func(cols int, sizes []int, f curs.Frame, c curs.Cursor) {
		p, m := made(cols, sizes, f.Margins, c)
		inside, single := m.inside(), slices.Max(sizes) == api.Single
		for i, feed := range feeds {
			after := p.Clone()
			got := feed.call(after, c, f)
			if !unchanged(p, after, m.in, -1) {
				t.Fatalf("P14.3: %s changes what is outside of %v: %s, %v", feed.name, m.in, shown(after), c)
			}
			stays(t, after, got, m.in, inside && single, feed.name, i)
		}
		for i, w := range allWays {
			after := p.Clone()
			got := press.Glyph(after, c, f, w, 'X')
			if !unchanged(p, after, m.in, got.Row) {
				t.Fatalf("P14.3: Glyph changes what is outside of %v and of row %d: %s, %v", m.in, got.Row, shown(after), c)
			}
			stays(t, after, got, m.in, inside && single, "Glyph", i)
		}
	})
}

// stays looks whether the cursor is on the page, within the width of its row, and within the margins, if it is to be.
func stays(t *testing.T, p *page.Page, got curs.Cursor, in api.Box, inside bool, name string, i int) {
	t.Helper()
	if got.Row < 0 || got.Row >= p.Rows() {
		t.Fatalf("P14.3: %s (%d): the cursor leaves the page: %v", name, i, got)
	}
	width := p.Cols()
	if p.Line(got.Row).Size != api.Single {
		width = max(1, width/2)
	}
	if got.Col < 0 || got.Col >= width {
		t.Fatalf("P14.3: %s (%d): the cursor leaves the width %d: %v", name, i, width, got)
	}
	if inside && !(got.Row >= in.Top && got.Row < in.Bottom && got.Col >= in.Left && got.Col < in.Right) {
		t.Fatalf("P14.3: %s (%d): the cursor leaves the margins %v: %v", name, i, in, got)
	}
}

// Many calls one behind the other, on greater pages.
func TestManyCalls(t *testing.T) {
	random := rand.New(rand.NewSource(7))
	for range 400 {
		rows, cols := 1+random.Intn(6), 1+random.Intn(9)
		sizes := make([]int, rows)
		for row := range sizes {
			if random.Intn(4) == 0 {
				sizes[row] = random.Intn(4)
			}
		}
		f := curs.Frame{Margins: api.Box{Top: random.Intn(rows+2) - 1, Left: random.Intn(cols+2) - 1, Bottom: random.Intn(rows+2) + 1, Right: random.Intn(cols+2) + 1}}
		c := full(api.Pos{Row: random.Intn(rows), Col: random.Intn(cols)}, random.Intn(2) == 0, random.Intn(2) == 0)
		p, m := made(cols, sizes, f.Margins, c)
		for step := range 60 {
			name := "Text"
			if k := random.Intn(2 * len(feeds)); k < len(feeds) {
				name = feeds[k].name
				c = feeds[k].call(p, c, f)
				feeds[k].tell(m)
			} else {
				w := allWays[random.Intn(len(allWays))]
				text := []rune("VWXYZ")[:random.Intn(6)]
				c.Rend = api.Rend(random.Intn(256))
				m.c.Rend = c.Rend
				c = press.Text(p, c, f, w, text...)
				m.text(w, text)
			}
			check(t, "P14.1, P14.2", p, c, m, name, step, f)
		}
	}
}

// The greatest page, written from end to end, and beyond.
func TestGreatestPage(t *testing.T) {
	p := page.New(api.MaxRows, api.MaxCols)
	text := make([]rune, 3*api.MaxCols+1)
	for i := range text {
		text[i] = rune('a' + i%26)
	}
	c := curs.Cursor{Pos: api.Pos{Row: api.MaxRows - 3}}
	got := press.Text(p, c, curs.Frame{}, press.Ways{Wrap: true}, text...)
	if got.Pos != (api.Pos{Row: api.MaxRows - 1, Col: 1}) || p.At(api.Pos{Row: api.MaxRows - 4}).Glyph != 'a' || p.At(api.Pos{Row: api.MaxRows - 1}).Glyph != text[3*api.MaxCols] {
		t.Errorf("P14.1: Text on the greatest page: %v", got)
	}
}

// A page that isn't there, as a book answers it, and one of no rows: nothing happens, and nothing breaks.
func TestNoPage(t *testing.T) {
	for _, p := range []*page.Page{book.New(1, 2, 2).Page(5), {}} {
		c := full(api.Pos{Row: 5, Col: -7}, true, true)
		f := curs.Frame{Page: api.Box{Bottom: 9, Right: 9}, Margins: api.Box{Top: 2, Left: 2, Bottom: 5, Right: 5}}
		for _, feed := range feeds {
			if got := feed.call(p, c, f); got.Pos != (api.Pos{}) || got.Wrap {
				t.Errorf("P14.2: %s of no page: %v", feed.name, got)
			}
		}
		for _, w := range allWays {
			if got := press.Glyph(p, c, f, w, 'X'); got.Pos != (api.Pos{}) {
				t.Errorf("P14.1: Glyph of no page: %v", got)
			}
			if got := press.Text(p, c, f, w, 'X', 'Y'); got.Pos != (api.Pos{}) || p.Rows() != 0 {
				t.Errorf("P14.1: Text of no page: %v", got)
			}
		}
	}
}

// A text that is handed in stays as it is, its spare room too; and a page keeps nothing of it.
func TestMemory(t *testing.T) {
	store := []rune("abcdef")
	p := page.New(2, 3)
	press.Text(p, curs.New(), curs.Frame{}, press.Ways{Wrap: true, Insert: true}, store[:4]...)
	if string(store) != "abcdef" {
		t.Errorf("P14.1: Text changed what was handed in: %q", string(store))
	}
	store[0] = 'z'
	if got := shown(p); got != "abc/0 d  /0" {
		t.Errorf("P14.1: the page keeps what was handed in: %s", got)
	}
}
