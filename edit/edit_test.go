package edit_test

import (
	"math"
	"math/rand"
	"slices"
	"strings"
	"testing"

	"phosphor/api"
	"phosphor/book"
	"phosphor/charset"
	"phosphor/curs"
	"phosphor/edit"
	"phosphor/iso"
	"phosphor/page"
)

var blank = api.Cell{Glyph: 32}

// model tells by the document's words what a page has, and where the cursor is.
type model struct {
	cells [][]api.Cell
	sizes []int
	in    api.Box // the margins, as they are taken
	c     curs.Cursor
}

func (m *model) rows() int { return len(m.cells) }

func (m *model) cols() int { return len(m.cells[0]) }

func has(b api.Box, row, col int) bool {
	return row >= b.Top && row < b.Bottom && col >= b.Left && col < b.Right
}

// held are the margins on a page: what of them is no place of it is left out, place by place; all of it, if nothing is left.
func held(rows, cols int, margins api.Box) api.Box {
	in := api.Box{Top: rows, Left: cols}
	for row := range rows {
		for col := range cols {
			if has(margins, row, col) {
				in = api.Box{Top: min(in.Top, row), Left: min(in.Left, col), Bottom: max(in.Bottom, row+1), Right: max(in.Right, col+1)}
			}
		}
	}
	if in.Bottom == 0 {
		return api.Box{Bottom: rows, Right: cols}
	}
	return in
}

func (m *model) clone() *model {
	other := *m
	other.sizes = slices.Clone(m.sizes)
	other.cells = nil
	for _, row := range m.cells {
		other.cells = append(other.cells, slices.Clone(row))
	}
	return &other
}

// end is what is true of the cursor behind every call.
func (m *model) end() {
	m.c.Wrap = false
	width := m.cols()
	if m.sizes[m.c.Row] != api.Single && width > 1 {
		width /= 2
	}
	m.c.Col = min(m.c.Col, width-1)
}

// chosen tells whether a place is among those that a number names, all of them read one behind the other.
func (m *model) chosen(row, col, which int) bool {
	place, cursor := row*m.cols()+col, m.c.Row*m.cols()+m.c.Col
	return which == 0 && place >= cursor || which == 1 && place <= cursor || which == 2
}

func (m *model) erase(row, col int, selective bool) {
	if !selective {
		m.cells[row][col] = blank
	} else if !m.cells[row][col].Kept {
		m.cells[row][col].Glyph = 32
	}
}

func (m *model) display(which int, selective bool) {
	for row := range m.rows() {
		count := 0
		for col := range m.cols() {
			if m.chosen(row, col, which) {
				m.erase(row, col, selective)
				count++
			}
		}
		if count == m.cols() && !selective {
			m.sizes[row] = api.Single
		}
	}
	m.end()
}

func (m *model) row(which int, selective bool) {
	for col := range m.cols() {
		if m.chosen(m.c.Row, col, which) {
			m.erase(m.c.Row, col, selective)
		}
	}
	m.end()
}

func (m *model) blank(n int) {
	for col := m.c.Col; col < m.cols() && n > 0; col++ {
		m.erase(m.c.Row, col, false)
		n--
	}
	m.end()
}

// shifted brings to each place of a box the cell that is so many rows and columns further on in it, or an erased one. Of a box of whole lines rows take their sizes along.
func (m *model) shifted(b api.Box, rows, cols int) {
	old := m.clone()
	for row := b.Top; row < b.Bottom; row++ {
		for col := b.Left; col < b.Right; col++ {
			m.cells[row][col] = blank
			if has(b, row+rows, col+cols) {
				m.cells[row][col] = old.cells[row+rows][col+cols]
			}
		}
		if rows != 0 && b.Left == 0 && b.Right == m.cols() {
			m.sizes[row] = api.Single
			if has(b, row+rows, 0) {
				m.sizes[row] = old.sizes[row+rows]
			}
		}
	}
}

// count is one that goes no further than is needed to leave a small page.
func count(n int) int {
	return max(0, min(n, 1000))
}

func (m *model) inside() bool {
	return has(m.in, m.c.Row, m.c.Col)
}

func (m *model) cellsBy(n int) {
	if m.c.Col >= m.in.Left && m.c.Col < m.in.Right {
		m.shifted(api.Box{Top: m.c.Row, Left: m.c.Col, Bottom: m.c.Row + 1, Right: m.in.Right}, 0, n)
	}
	m.end()
}

func (m *model) linesBy(n int) {
	if m.inside() {
		b := m.in
		b.Top = m.c.Row
		m.shifted(b, n, 0)
	}
	m.end()
}

func (m *model) columnsBy(n int) {
	if m.inside() {
		b := m.in
		b.Left = m.c.Col
		m.shifted(b, 0, n)
	}
	m.end()
}

// shifts are the calls that take a count and margins, by their names, and what the model does.
var shifts = []struct {
	name string
	call func(p *page.Page, c curs.Cursor, f curs.Frame, n int) curs.Cursor
	tell func(m *model, n int)
}{
	{"InsertCells", edit.InsertCells, func(m *model, n int) { m.cellsBy(-count(n)) }},
	{"DeleteCells", edit.DeleteCells, func(m *model, n int) { m.cellsBy(count(n)) }},
	{"InsertLines", edit.InsertLines, func(m *model, n int) { m.linesBy(-count(n)) }},
	{"DeleteLines", edit.DeleteLines, func(m *model, n int) { m.linesBy(count(n)) }},
	{"InsertColumns", edit.InsertColumns, func(m *model, n int) { m.columnsBy(-count(n)) }},
	{"DeleteColumns", edit.DeleteColumns, func(m *model, n int) { m.columnsBy(count(n)) }},
}

func (m *model) scroll(rows, cols int) {
	m.shifted(m.in, max(-1000, min(rows, 1000)), 0)
	m.shifted(m.in, 0, max(-1000, min(cols, 1000)))
}

// made is a page whose cells are unlike each other, with lines of these sizes, and its model.
func made(cols int, sizes []int, margins api.Box, c curs.Cursor) (*page.Page, *model) {
	rows := len(sizes)
	p, m := page.New(rows, cols), &model{sizes: slices.Clone(sizes), in: held(rows, cols, margins), c: c}
	for row := range rows {
		var cells []api.Cell
		for col := range cols {
			i := row*cols + col
			cells = append(cells, api.Cell{Glyph: rune('a' + i), Rend: api.Rend(i * 37), Kept: i%3 == 1})
		}
		m.cells = append(m.cells, cells)
		p.SetLine(row, api.Line{Cells: cells, Size: sizes[row]})
	}
	m.c.Row = min(max(c.Row, 0), rows-1)
	m.c.Col = min(max(c.Col, 0), cols-1)
	return p, m
}

// shown tells a page's glyphs and its lines' sizes, row by row.
func shown(p *page.Page) string {
	s := ""
	for row := range p.Rows() {
		for _, c := range p.Line(row).Cells {
			s += string(c.Glyph)
		}
		s += "/" + string(rune('0'+p.Line(row).Size)) + " "
	}
	return strings.TrimSuffix(s, " ")
}

// copied is a page as its model has it.
func (m *model) copied() *page.Page {
	p := page.New(m.rows(), m.cols())
	for row, cells := range m.cells {
		p.SetLine(row, api.Line{Cells: cells, Size: m.sizes[row]})
	}
	return p
}

func check(t *testing.T, promise string, p *page.Page, got curs.Cursor, m *model, doing string, args ...any) {
	t.Helper()
	if want := m.copied(); !p.Same(want) {
		t.Fatalf("%s: %s %v: the page is %s, not %s", promise, doing, args, shown(p), shown(want))
	}
	if got != m.c {
		t.Fatalf("P15.5: %s %v: the cursor is %v, not %v", doing, args, got, m.c)
	}
}

// full is a cursor of which nothing is zero: what is to stay as it is, can be told.
func full(at api.Pos) curs.Cursor {
	return curs.Cursor{Pos: at, Rend: 0xF5, Kept: true, Wrap: true, Origin: at.Row%2 == 0, Sets: iso.State{G: [4]int{charset.German, charset.Latin, -5, 99}, GL: 1, GR: 3, Single: 2}}
}

// pages are small ones: how many columns, and their lines' sizes.
var pages = []struct {
	cols  int
	sizes []int
}{
	{1, []int{api.Single}},
	{1, []int{api.Wide, api.Single}},
	{5, []int{api.Single}},
	{3, []int{api.Single, api.Single, api.Single}},
	{4, []int{api.Single, api.Wide, api.Single}},
	{5, []int{api.Upper, api.Lower, api.Single}},
	{2, []int{api.Wide, api.Single, api.Single, api.Lower}},
}

// far are numbers that would overflow, if they were added to anything.
var far = []int{math.MinInt, math.MinInt + 1, -1 << 32, math.MinInt32, 1 << 32, 1<<32 + 1, math.MaxInt - 1, math.MaxInt}

var counts = append([]int{-2, -1, 0, 1, 2, 3, 4, 5, 6}, far...)

// boxes are the margins about a small page, some of which have nothing; and some that go far beyond it.
func boxes(rows, cols int) []api.Box {
	var list []api.Box
	for top := -1; top <= rows; top++ {
		for bottom := top; bottom <= rows+1; bottom++ {
			for left := -1; left <= cols; left++ {
				for right := left; right <= cols+1; right++ {
					list = append(list, api.Box{Top: top, Left: left, Bottom: bottom, Right: right})
				}
			}
		}
	}
	return append(list, api.Box{}, api.Box{Top: math.MinInt, Left: 1, Bottom: 2, Right: math.MaxInt}, api.Box{Top: math.MaxInt, Left: math.MaxInt, Bottom: math.MinInt, Right: math.MinInt})
}

// each goes through the places of small pages.
func each(do func(cols int, sizes []int, c curs.Cursor)) {
	for _, x := range pages {
		for row := range x.sizes {
			for col := range x.cols {
				do(x.cols, x.sizes, full(api.Pos{Row: row, Col: col}))
			}
		}
	}
}

func TestDisplayAndRow(t *testing.T) {
	each(func(cols int, sizes []int, c curs.Cursor) {
		for _, which := range append([]int{-1, 0, 1, 2, 3, 4}, far...) {
			for _, selective := range []bool{false, true} {
				p, m := made(cols, sizes, api.Box{}, c)
				got := edit.Display(p, c, which, selective)
				m.display(which, selective)
				check(t, "P15.1", p, got, m, "Display", which, selective, cols, sizes, c.Pos)
				p, m = made(cols, sizes, api.Box{}, c)
				got = edit.Row(p, c, which, selective)
				m.row(which, selective)
				check(t, "P15.1", p, got, m, "Row", which, selective, cols, sizes, c.Pos)
			}
		}
	})
}

func TestBlank(t *testing.T) {
	each(func(cols int, sizes []int, c curs.Cursor) {
		for _, n := range counts {
			p, m := made(cols, sizes, api.Box{}, c)
			got := edit.Blank(p, c, n)
			m.blank(n)
			check(t, "P15.1", p, got, m, "Blank", n, cols, sizes, c.Pos)
		}
	})
}

func TestNumbersOfWhatIsErased(t *testing.T) {
	if edit.Rest != 0 || edit.Begin != 1 || edit.All != 2 {
		t.Errorf("P15.1: Rest, Begin, All are %d, %d, %d", edit.Rest, edit.Begin, edit.All)
	}
}

// What is outside of the cursor's row, or ahead of the cursor, doesn't count for a line's becoming Single: all of its cells have to be erased.
func TestSizesOfErasedLines(t *testing.T) {
	for _, x := range []struct {
		at        api.Pos
		which     int
		selective bool
		sizes     string
	}{
		{api.Pos{Row: 1}, edit.Rest, false, "100"},
		{api.Pos{Row: 1, Col: 1}, edit.Rest, false, "120"},
		{api.Pos{Row: 1}, edit.Rest, true, "123"},
		{api.Pos{Row: 1, Col: 3}, edit.Begin, false, "003"},
		{api.Pos{Row: 1, Col: 2}, edit.Begin, false, "023"},
		{api.Pos{Row: 1, Col: 3}, edit.Begin, true, "123"},
		{api.Pos{Row: 1, Col: 2}, edit.All, false, "000"},
		{api.Pos{Row: 1, Col: 2}, edit.All, true, "123"},
		{api.Pos{}, edit.Rest, false, "000"},
		{api.Pos{Row: 2, Col: 3}, edit.Begin, false, "000"},
		{api.Pos{Row: 1, Col: 2}, 3, false, "123"},
	} {
		p, _ := made(4, []int{api.Wide, api.Upper, api.Lower}, api.Box{}, curs.Cursor{})
		edit.Display(p, curs.Cursor{Pos: x.at}, x.which, x.selective)
		sizes := ""
		for row := range p.Rows() {
			sizes += string(rune('0' + p.Line(row).Size))
		}
		if sizes != x.sizes {
			t.Errorf("P15.1: Display(%d, %v) at %v: the sizes are %s, not %s", x.which, x.selective, x.at, sizes, x.sizes)
		}
	}
}

func TestShifts(t *testing.T) {
	turn := 0
	for _, x := range pages {
		for _, margins := range boxes(len(x.sizes), x.cols) {
			f := curs.Frame{Page: api.Box{Bottom: 2, Right: 99}, Margins: margins}
			for row := range x.sizes {
				for col := range x.cols {
					c := full(api.Pos{Row: row, Col: col})
					for _, shift := range shifts {
						turn++
						for _, n := range []int{1, counts[turn%len(counts)]} {
							p, m := made(x.cols, x.sizes, margins, c)
							got := shift.call(p, c, f, n)
							shift.tell(m, n)
							check(t, "P15.2", p, got, m, shift.name, n, x.cols, x.sizes, margins, c.Pos)
						}
					}
				}
			}
		}
	}
}

func TestShiftsOfAllCounts(t *testing.T) {
	for _, margins := range []api.Box{{Bottom: 3, Right: 5}, {Top: 1, Bottom: 3, Right: 5}, {Bottom: 2, Left: 1, Right: 4}, {Top: 1, Bottom: 2, Left: 1, Right: 9}} {
		f := curs.Frame{Margins: margins}
		for row := range 3 {
			for col := range 5 {
				c := full(api.Pos{Row: row, Col: col})
				for _, shift := range shifts {
					for _, n := range counts {
						p, m := made(5, []int{api.Wide, api.Single, api.Upper}, margins, c)
						got := shift.call(p, c, f, n)
						shift.tell(m, n)
						check(t, "P15.2", p, got, m, shift.name, n, margins, c.Pos)
					}
				}
			}
		}
	}
}

func TestScroll(t *testing.T) {
	for _, x := range pages {
		for i, margins := range boxes(len(x.sizes), x.cols) {
			f := curs.Frame{Page: api.Box{Bottom: 1, Right: 99}, Margins: margins}
			for j := range counts {
				for _, n := range [][2]int{{counts[j], 0}, {0, counts[j]}, {counts[j], counts[(i+j)%len(counts)]}} {
					p, m := made(x.cols, x.sizes, margins, curs.Cursor{})
					edit.Scroll(p, f, n[0], n[1])
					m.scroll(n[0], n[1])
					check(t, "P15.2", p, m.c, m, "Scroll", n, x.cols, x.sizes, margins)
				}
			}
		}
	}
}

func TestAlign(t *testing.T) {
	for _, x := range pages {
		p, m := made(x.cols, x.sizes, api.Box{}, curs.Cursor{})
		edit.Align(p)
		for row := range m.cells {
			m.sizes[row] = api.Single
			for col := range m.cells[row] {
				m.cells[row][col] = api.Cell{Glyph: 0x45}
			}
		}
		check(t, "P15.3", p, m.c, m, "Align", x.cols, x.sizes)
		// Each line has cells of its own.
		p.Put(api.Pos{}, blank)
		m.cells[0][0] = blank
		check(t, "P15.3", p, m.c, m, "Put behind Align", x.cols, x.sizes)
	}
}

func TestSize(t *testing.T) {
	each(func(cols int, sizes []int, c curs.Cursor) {
		for _, size := range append([]int{-1, 0, 1, 2, 3, 4, 255, 256, 257}, far...) {
			p, m := made(cols, sizes, api.Box{}, c)
			got := edit.Size(p, c, size)
			m.sizes[m.c.Row] = api.Single
			if size >= 0 && size <= 3 {
				m.sizes[m.c.Row] = size
			}
			m.end()
			check(t, "P15.3", p, got, m, "Size", size, cols, sizes, c.Pos)
		}
	})
}

// calls are all that answer a cursor, with some numbers.
var calls = []struct {
	name string
	call func(p *page.Page, c curs.Cursor, f curs.Frame) curs.Cursor
	tell func(m *model)
}{
	{"Display(Rest)", func(p *page.Page, c curs.Cursor, f curs.Frame) curs.Cursor {
		return edit.Display(p, c, edit.Rest, false)
	}, func(m *model) { m.display(0, false) }},
	{"Display(Begin)", func(p *page.Page, c curs.Cursor, f curs.Frame) curs.Cursor {
		return edit.Display(p, c, edit.Begin, true)
	}, func(m *model) { m.display(1, true) }},
	{"Display(All)", func(p *page.Page, c curs.Cursor, f curs.Frame) curs.Cursor {
		return edit.Display(p, c, edit.All, false)
	}, func(m *model) { m.display(2, false) }},
	{"Row(Rest)", func(p *page.Page, c curs.Cursor, f curs.Frame) curs.Cursor { return edit.Row(p, c, edit.Rest, true) }, func(m *model) { m.row(0, true) }},
	{"Row(Begin)", func(p *page.Page, c curs.Cursor, f curs.Frame) curs.Cursor { return edit.Row(p, c, edit.Begin, false) }, func(m *model) { m.row(1, false) }},
	{"Blank", func(p *page.Page, c curs.Cursor, f curs.Frame) curs.Cursor { return edit.Blank(p, c, 2) }, func(m *model) { m.blank(2) }},
	{"InsertCells", func(p *page.Page, c curs.Cursor, f curs.Frame) curs.Cursor { return edit.InsertCells(p, c, f, 1) }, func(m *model) { m.cellsBy(-1) }},
	{"DeleteCells", func(p *page.Page, c curs.Cursor, f curs.Frame) curs.Cursor { return edit.DeleteCells(p, c, f, 2) }, func(m *model) { m.cellsBy(2) }},
	{"InsertLines", func(p *page.Page, c curs.Cursor, f curs.Frame) curs.Cursor { return edit.InsertLines(p, c, f, 1) }, func(m *model) { m.linesBy(-1) }},
	{"DeleteLines", func(p *page.Page, c curs.Cursor, f curs.Frame) curs.Cursor { return edit.DeleteLines(p, c, f, 1) }, func(m *model) { m.linesBy(1) }},
	{"InsertColumns", func(p *page.Page, c curs.Cursor, f curs.Frame) curs.Cursor { return edit.InsertColumns(p, c, f, 2) }, func(m *model) { m.columnsBy(-2) }},
	{"DeleteColumns", func(p *page.Page, c curs.Cursor, f curs.Frame) curs.Cursor { return edit.DeleteColumns(p, c, f, 1) }, func(m *model) { m.columnsBy(1) }},
	{"Size", func(p *page.Page, c curs.Cursor, f curs.Frame) curs.Cursor { return edit.Size(p, c, api.Upper) }, func(m *model) { m.sizes[m.c.Row] = api.Upper; m.end() }},
}

// Cursors that aren't on the page are taken to it, whatever the frame's Page is.
func TestFarCursors(t *testing.T) {
	numbers := []int{math.MinInt, -1 << 32, -1, 0, 1, 2, 3, 4, 5, 1 << 32, math.MaxInt - 1, math.MaxInt}
	frames := []curs.Frame{
		{},
		{Page: api.Box{Bottom: 1, Right: 1}, Margins: api.Box{Top: 1, Left: 1, Bottom: 3, Right: 3}},
		{Page: api.Box{Bottom: 500, Right: 500}, Margins: api.Box{Bottom: 2, Right: 3}},
		{Page: api.Box{Top: 9, Left: 9, Bottom: math.MinInt, Right: math.MinInt}, Margins: api.Box{Top: 2, Left: 3, Bottom: 9, Right: 9}},
	}
	for _, row := range numbers {
		for _, col := range numbers {
			for _, f := range frames {
				for _, sizes := range [][]int{{0, 0, 0}, {api.Wide, api.Single, api.Lower}} {
					for _, x := range calls {
						c := full(api.Pos{Row: row, Col: col})
						p, m := made(4, sizes, f.Margins, c)
						got := x.call(p, c, f)
						x.tell(m)
						check(t, "P15.1 to P15.3", p, got, m, x.name, sizes, f, c.Pos)
					}
				}
			}
		}
	}
}

// unlike are the places at which two pages of one size have unlike cells.
func unlike(p, q *page.Page) []api.Pos {
	var list []api.Pos
	for row := range p.Rows() {
		for col := range p.Cols() {
			at := api.Pos{Row: row, Col: col}
			if p.At(at) != q.At(at) {
				list = append(list, at)
			}
		}
	}
	return list
}

func TestKeptStays(t *testing.T) {
	each(func(cols int, sizes []int, c curs.Cursor) {
		for which := -1; which <= 3; which++ {
			for _, row := range []bool{false, true} {
				p, _ := made(cols, sizes, api.Box{}, c)
				before := p.Clone()
				if row {
					edit.Row(p, c, which, true)
				} else {
					edit.Display(p, c, which, true)
				}
				for _, at := range unlike(before, p) {
					want := before.At(at)
					want.Glyph = 32
					if got := p.At(at); want.Kept || got != want {
						t.Fatalf("P15.4: selective erasing of %d at %v: %v becomes %v", which, c.Pos, before.At(at), got)
					}
				}
			}
		}
	})
}

// Where the cursor's row is outside the margins, InsertCells and DeleteCells change that row all the same, as only its column has to be among theirs: so that row is left out.
func TestNothingOutsideTheMargins(t *testing.T) {
	for _, x := range pages {
		for _, margins := range boxes(len(x.sizes), x.cols) {
			in := held(len(x.sizes), x.cols, margins)
			f := curs.Frame{Margins: margins}
			for row := range x.sizes {
				for col := range x.cols {
					c := full(api.Pos{Row: row, Col: col})
					for i, shift := range shifts {
						p, _ := made(x.cols, x.sizes, margins, c)
						before := p.Clone()
						shift.call(p, c, f, 1+(row+col)%3)
						outside(t, before, p, in, shift.name, c.Pos, i < 2)
					}
				}
			}
			for i, rows := range []int{-9, -1, 0, 1, 2, math.MaxInt} {
				p, _ := made(x.cols, x.sizes, margins, curs.Cursor{})
				before := p.Clone()
				edit.Scroll(p, f, rows, []int{1, -2, 3, 0, -1}[i%5])
				outside(t, before, p, in, "Scroll", api.Pos{Row: -1}, false)
			}
		}
	}
}

func outside(t *testing.T, before, after *page.Page, in api.Box, name string, cursor api.Pos, inRow bool) {
	t.Helper()
	for _, at := range unlike(before, after) {
		inCols := at.Col >= in.Left && at.Col < in.Right
		if !has(in, at.Row, at.Col) && !(inRow && inCols && at.Row == cursor.Row) {
			t.Fatalf("P15.4: %s at %v changes %v, outside of %v: %s", name, cursor, at, in, shown(after))
		}
	}
	for row := range before.Rows() {
		whole := in.Left == 0 && in.Right == before.Cols() && row >= in.Top && row < in.Bottom
		if !whole && before.Line(row).Size != after.Line(row).Size {
			t.Fatalf("P15.4: %s at %v changes the size of line %d, margins %v: %s", name, cursor, row, in, shown(after))
		}
	}
}

// The cursor comes to the width that its row has behind the call.
func TestWidthsOfLinesThatMove(t *testing.T) {
	whole := curs.Frame{Margins: api.Box{Bottom: 3, Right: 6}}
	for _, x := range []struct {
		name  string
		sizes []int
		call  func(p *page.Page, c curs.Cursor) curs.Cursor
		shown string
		col   int
	}{
		{"DeleteLines", []int{0, 0, 1}, func(p *page.Page, c curs.Cursor) curs.Cursor { return edit.DeleteLines(p, c, whole, 1) }, "abcdef/0 mnopqr/1       /0", 2},
		{"DeleteLines", []int{0, 1, 0}, func(p *page.Page, c curs.Cursor) curs.Cursor { return edit.DeleteLines(p, c, whole, 1) }, "abcdef/0 mnopqr/0       /0", 5},
		{"InsertLines", []int{1, 1, 0}, func(p *page.Page, c curs.Cursor) curs.Cursor { return edit.InsertLines(p, c, whole, 1) }, "abcdef/1       /0 ghijkl/1", 5},
		{"Display", []int{1, 1, 1}, func(p *page.Page, c curs.Cursor) curs.Cursor { return edit.Display(p, c, edit.All, false) }, "      /0       /0       /0", 5},
		{"Display", []int{1, 1, 1}, func(p *page.Page, c curs.Cursor) curs.Cursor { return edit.Display(p, c, edit.Rest, false) }, "abcdef/1 ghijk /1       /0", 2},
		{"Row", []int{1, 1, 1}, func(p *page.Page, c curs.Cursor) curs.Cursor { return edit.Row(p, c, edit.All, false) }, "abcdef/1       /1 mnopqr/1", 2},
		{"Size", []int{1, 1, 1}, func(p *page.Page, c curs.Cursor) curs.Cursor { return edit.Size(p, c, api.Single) }, "abcdef/1 ghijkl/0 mnopqr/1", 5},
		{"Size", []int{0, 0, 0}, func(p *page.Page, c curs.Cursor) curs.Cursor { return edit.Size(p, c, api.Lower) }, "abcdef/0 ghijkl/3 mnopqr/0", 2},
	} {
		p, _ := made(6, x.sizes, api.Box{}, curs.Cursor{})
		got := x.call(p, curs.Cursor{Pos: api.Pos{Row: 1, Col: 5}})
		if shown(p) != x.shown || got.Col != x.col || got.Row != 1 {
			t.Errorf("P15.5: %s, sizes %v: %s, %v", x.name, x.sizes, shown(p), got.Pos)
		}
	}
}

// But for the width the place stays; and so does all else of a cursor but Wrap.
func TestThePlaceStays(t *testing.T) {
	for _, x := range calls {
		if x.name == "Size" {
			continue
		}
		for row := range 3 {
			for col := range 4 {
				c := full(api.Pos{Row: row, Col: col})
				p, _ := made(4, make([]int, 3), api.Box{}, c)
				want := c
				want.Wrap = false
				if got := x.call(p, c, curs.Frame{Margins: api.Box{Left: 1, Bottom: 2, Right: 3}}); got != want {
					t.Errorf("P15.5: %s: the cursor is %v, not %v", x.name, got, want)
				}
			}
		}
	}
}

func TestExamples(t *testing.T) {
	for _, x := range []struct {
		name  string
		call  func(p *page.Page, c curs.Cursor) curs.Cursor
		shown string
	}{
		{"Display(Rest)", func(p *page.Page, c curs.Cursor) curs.Cursor { return edit.Display(p, c, edit.Rest, false) }, "a  /0    /0"},
		{"Row(Begin)", func(p *page.Page, c curs.Cursor) curs.Cursor { return edit.Row(p, c, edit.Begin, false) }, "  c/0 def/0"},
		{"InsertLines(1)", func(p *page.Page, c curs.Cursor) curs.Cursor { return edit.InsertLines(p, c, curs.Frame{}, 1) }, "   /0 abc/0"},
		{"Display(Begin)", func(p *page.Page, c curs.Cursor) curs.Cursor { return edit.Display(p, c, edit.Begin, false) }, "  c/0 def/0"},
		{"Blank(1)", func(p *page.Page, c curs.Cursor) curs.Cursor { return edit.Blank(p, c, 1) }, "a c/0 def/0"},
		{"InsertCells(1)", func(p *page.Page, c curs.Cursor) curs.Cursor { return edit.InsertCells(p, c, curs.Frame{}, 1) }, "a b/0 def/0"},
		{"DeleteCells(1)", func(p *page.Page, c curs.Cursor) curs.Cursor { return edit.DeleteCells(p, c, curs.Frame{}, 1) }, "ac /0 def/0"},
		{"InsertColumns(1)", func(p *page.Page, c curs.Cursor) curs.Cursor { return edit.InsertColumns(p, c, curs.Frame{}, 1) }, "a b/0 d e/0"},
		{"DeleteColumns(1)", func(p *page.Page, c curs.Cursor) curs.Cursor { return edit.DeleteColumns(p, c, curs.Frame{}, 1) }, "ac /0 df /0"},
		{"DeleteLines(1)", func(p *page.Page, c curs.Cursor) curs.Cursor { return edit.DeleteLines(p, c, curs.Frame{}, 1) }, "def/0    /0"},
	} {
		p, _ := made(3, []int{0, 0}, api.Box{}, curs.Cursor{})
		got := x.call(p, curs.Cursor{Pos: api.Pos{Col: 1}})
		if shown(p) != x.shown || got.Pos != (api.Pos{Col: 1}) {
			t.Errorf("P15.1, P15.2: an example: %s: %s, %v", x.name, shown(p), got.Pos)
		}
	}
}

// Many calls one behind the other, on greater pages.
func TestManyCalls(t *testing.T) {
	random := rand.New(rand.NewSource(15))
	for range 300 {
		rows, cols := 1+random.Intn(7), 1+random.Intn(9)
		sizes := make([]int, rows)
		for row := range sizes {
			if random.Intn(3) == 0 {
				sizes[row] = random.Intn(4)
			}
		}
		f := curs.Frame{Margins: api.Box{Top: random.Intn(rows+2) - 1, Left: random.Intn(cols+2) - 1, Bottom: random.Intn(rows+2) + 1, Right: random.Intn(cols+2) + 1}}
		c := full(api.Pos{Row: random.Intn(rows), Col: random.Intn(cols)})
		p, m := made(cols, sizes, f.Margins, c)
		for step := range 40 {
			c.Row, c.Col = random.Intn(rows), random.Intn(cols)
			m.c = c
			x := calls[random.Intn(len(calls))]
			c = x.call(p, c, f)
			x.tell(m)
			check(t, "P15.1 to P15.3", p, c, m, x.name, step, f)
			if random.Intn(4) == 0 {
				up, left := random.Intn(7)-3, random.Intn(7)-3
				edit.Scroll(p, f, up, left)
				m.scroll(up, left)
				check(t, "P15.2", p, c, m, "Scroll", step, up, left, f)
			}
			at := api.Pos{Row: random.Intn(rows), Col: random.Intn(cols)}
			p.Put(at, api.Cell{Glyph: 'A' + rune(step), Kept: step%2 == 0})
			m.cells[at.Row][at.Col] = p.At(at)
		}
	}
}

// The greatest page, at its end.
func TestGreatestPage(t *testing.T) {
	p := page.New(api.MaxRows, api.MaxCols)
	edit.Align(p)
	last := api.Pos{Row: api.MaxRows - 1, Col: api.MaxCols - 1}
	c := edit.Display(p, curs.Cursor{Pos: api.Pos{Row: math.MaxInt, Col: math.MaxInt}}, edit.Rest, false)
	if c.Pos != last || p.At(last) != blank || p.At(api.Pos{Row: last.Row, Col: last.Col - 1}).Glyph != 'E' {
		t.Errorf("P15.1: Display of the greatest page's last cell: %v", c.Pos)
	}
	edit.Scroll(p, curs.Frame{}, -1, -1)
	for _, x := range []struct {
		at   api.Pos
		want rune
	}{{api.Pos{}, 32}, {api.Pos{Row: 0, Col: 9}, 32}, {api.Pos{Row: 9}, 32}, {api.Pos{Row: 1, Col: 1}, 'E'}, {last, 'E'}} {
		if got := p.At(x.at).Glyph; got != x.want {
			t.Errorf("P15.2: Scroll of the greatest page: at %v is %q", x.at, got)
		}
	}
}

// A page that isn't there, as a book answers it, and one of no rows: nothing happens, and nothing breaks.
func TestNoPage(t *testing.T) {
	for _, p := range []*page.Page{book.New(1, 2, 2).Page(5), {}} {
		f := curs.Frame{Page: api.Box{Bottom: 9, Right: 9}, Margins: api.Box{Top: 2, Left: 2, Bottom: 5, Right: 5}}
		for _, x := range calls {
			want := full(api.Pos{Row: 5, Col: -7})
			got := x.call(p, want, f)
			want.Pos, want.Wrap = api.Pos{}, false
			if got != want || p.Rows() != 0 {
				t.Errorf("P15.5: %s of no page: %v", x.name, got)
			}
		}
		edit.Scroll(p, f, 1, -1)
		edit.Align(p)
		if p.Rows() != 0 {
			t.Errorf("P15.2, P15.3: Scroll and Align of no page make rows")
		}
	}
}
