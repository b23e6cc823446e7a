package page_test

import (
	"math"
	"math/rand"
	"slices"
	"testing"

	"phosphor/api"
	"phosphor/page"
	"phosphor/rend"
)

var blank = api.Cell{Glyph: 32}

// far are numbers that would overflow, if they were added to anything.
var far = []int{math.MinInt, math.MinInt + 1, math.MinInt32, -65536, 65536, math.MaxInt32, 1 << 32, 1<<32 + 1, math.MaxInt - 1, math.MaxInt}

// counts are all about small pages, and far ones.
var counts = append([]int{-2, -1, 0, 1, 2, 3, 4, 5, 6}, far...)

// model tells by the document's words what a page has: cells by their rows, and the rows' sizes.
type model struct {
	cells [][]api.Cell
	sizes []int
}

func newModel(rows, cols int) model {
	m := model{sizes: make([]int, rows)}
	for range rows {
		var row []api.Cell
		for range cols {
			row = append(row, blank)
		}
		m.cells = append(m.cells, row)
	}
	return m
}

func (m model) cols() int {
	if len(m.cells) == 0 {
		return 0
	}
	return len(m.cells[0])
}

func (m model) clone() model {
	other := model{sizes: slices.Clone(m.sizes)}
	for _, row := range m.cells {
		other.cells = append(other.cells, slices.Clone(row))
	}
	return other
}

func (m model) has(row, col int) bool {
	return row >= 0 && row < len(m.cells) && col >= 0 && col < m.cols()
}

// inside tells whether a place is of a box, and of the page.
func (m model) inside(b api.Box, row, col int) bool {
	return m.has(row, col) && row >= b.Top && row < b.Bottom && col >= b.Left && col < b.Right
}

// all tells whether a box has every column of a page.
func (m model) all(b api.Box) bool {
	return b.Left <= 0 && b.Right >= m.cols()
}

// each is the page behind what is done with every cell of a box.
func (m model) each(b api.Box, do func(c api.Cell) api.Cell) model {
	after := m.clone()
	for row := range m.cells {
		for col, c := range m.cells[row] {
			if m.inside(b, row, col) {
				after.cells[row][col] = do(c)
			}
		}
	}
	return after
}

// moved is the page behind a move: each of the box's cells comes from so many rows and columns further on.
func (m model) moved(b api.Box, rows, cols int) model {
	after := m.clone()
	for row := range m.cells {
		for col := range m.cells[row] {
			if !m.inside(b, row, col) {
				continue
			}
			after.cells[row][col] = blank
			if m.inside(b, row+rows, col+cols) {
				after.cells[row][col] = m.cells[row+rows][col+cols]
			}
		}
		if rows == 0 || !m.all(b) || !m.inside(b, row, 0) {
			continue
		}
		after.sizes[row] = api.Single
		if m.inside(b, row+rows, 0) {
			after.sizes[row] = m.sizes[row+rows]
		}
	}
	return after
}

// held is a count as a small page can tell it from others: none, so many, or all.
func held(n int) int {
	return min(max(n, 0), 100)
}

// laid is the page behind the cells of another one's box standing on it from a place on. No place beyond the page's ends is worked out.
func (m model) laid(from model, b api.Box, to api.Pos) model {
	after := m.clone()
	top, left := max(b.Top, 0), max(b.Left, 0)
	for row := range from.cells {
		for col, c := range from.cells[row] {
			if !from.inside(b, row, col) {
				continue
			}
			for r := range m.cells {
				for s := range m.cells[r] {
					// r - (row - top) is small, so it can be held against any place.
					if r-(row-top) == to.Row && s-(col-left) == to.Col {
						after.cells[r][s] = c
					}
				}
			}
		}
	}
	return after
}

func (m model) resized(rows, cols int) model {
	after := newModel(min(max(rows, 1), 500), min(max(cols, 1), 500))
	for row := range after.cells {
		if row < len(m.cells) {
			copy(after.cells[row], m.cells[row])
			after.sizes[row] = m.sizes[row]
		}
	}
	return after
}

// made is a page whose cells are unlike each other, and its model.
func made(rows, cols int) (*page.Page, model) {
	p, m := page.New(rows, cols), newModel(rows, cols)
	for row := range rows {
		m.sizes[row] = (row + 1) % 4
		for col := range cols {
			i := row*cols + col
			m.cells[row][col] = api.Cell{Glyph: rune('a' + i), Rend: api.Rend(i * 37), Kept: i%3 == 1}
		}
		p.SetLine(row, api.Line{Cells: m.cells[row], Size: m.sizes[row]})
	}
	return p, m
}

// unlike tells what of a page isn't as its model has it; "" if all is.
func unlike(p *page.Page, m model) string {
	if p.Rows() != len(m.cells) || p.Cols() != m.cols() {
		return "its size"
	}
	for row := range m.cells {
		l := p.Line(row)
		if !slices.Equal(l.Cells, m.cells[row]) {
			return "the cells of a line"
		}
		if l.Size != m.sizes[row] {
			return "the size of a line"
		}
	}
	return ""
}

func check(t *testing.T, promise string, p *page.Page, m model, doing string, args ...any) {
	t.Helper()
	if what := unlike(p, m); what != "" {
		t.Fatalf("%s: %s %v: %s isn't right: %s, not %s", promise, doing, args, what, shown(p), m.shown())
	}
}

// shown tells a page's glyphs, row by row.
func shown(p *page.Page) string {
	s := ""
	for row := range p.Rows() {
		for _, c := range p.Line(row).Cells {
			s += string(c.Glyph)
		}
		s += "/" + string(rune('0'+p.Line(row).Size)) + " "
	}
	return s
}

func (m model) shown() string {
	s := ""
	for row := range m.cells {
		for _, c := range m.cells[row] {
			s += string(c.Glyph)
		}
		s += "/" + string(rune('0'+m.sizes[row])) + " "
	}
	return s
}

// spans are beginnings and ends about so many rows or columns; some of them have nothing.
func spans(n int) [][2]int {
	var list [][2]int
	for from := -1; from <= n+1; from++ {
		for to := -1; to <= n+1; to++ {
			list = append(list, [2]int{from, to})
		}
	}
	for _, a := range []int{math.MinInt, 1, math.MaxInt} {
		for _, b := range []int{math.MinInt, 1, math.MaxInt} {
			list = append(list, [2]int{a, b})
		}
	}
	return list
}

// boxes are all about a page, and some that go far beyond it.
func boxes(rows, cols int) []api.Box {
	var list []api.Box
	for _, r := range spans(rows) {
		for _, c := range spans(cols) {
			list = append(list, api.Box{Top: r[0], Bottom: r[1], Left: c[0], Right: c[1]})
		}
	}
	return list
}

// sizes are pages of few rows and columns.
var sizes = [][2]int{{1, 1}, {1, 3}, {3, 1}, {3, 2}, {2, 4}}

func TestNew(t *testing.T) {
	for _, x := range []struct{ rows, cols, wantRows, wantCols int }{
		{1, 1, 1, 1}, {24, 80, 24, 80}, {0, 0, 1, 1}, {-1, 5, 1, 5}, {5, -1, 5, 1}, {500, 499, 500, 499}, {499, 500, 499, 500},
		{501, 2, 500, 2}, {2, 501, 2, 500}, {math.MinInt, math.MaxInt, 1, 500}, {math.MaxInt, math.MinInt, 500, 1}, {1 << 32, 1<<32 + 7, 500, 500},
	} {
		p := page.New(x.rows, x.cols)
		check(t, "P7.1", p, newModel(x.wantRows, x.wantCols), "New", x.rows, x.cols)
		if got, want := p.Box(), (api.Box{Bottom: x.wantRows, Right: x.wantCols}); got != want {
			t.Errorf("P7.1: Box of New(%d, %d) = %v, not %v", x.rows, x.cols, got, want)
		}
	}
}

func TestLine(t *testing.T) {
	p, m := made(3, 4)
	for row, want := range m.cells {
		if l := p.Line(row); !slices.Equal(l.Cells, want) || l.Size != m.sizes[row] {
			t.Errorf("P7.1: Line(%d) = %v", row, l)
		}
	}
	for _, row := range append([]int{-1, -3, 3, 4, 500}, far...) {
		if l := p.Line(row); len(l.Cells) != 0 || l.Size != 0 {
			t.Errorf("P7.1: Line(%d) = %v, not the zero Line", row, l)
		}
	}
}

func TestSetLine(t *testing.T) {
	long := []api.Cell{{Glyph: 'x'}, {Glyph: 'y', Kept: true}, {Glyph: 'z', Rend: 255}, {Glyph: -1}, {Glyph: 'v'}, {Glyph: 'w'}}
	for _, x := range []struct{ size, want int }{
		{api.Single, api.Single}, {api.Wide, api.Wide}, {api.Upper, api.Upper}, {api.Lower, api.Lower},
		{-1, api.Single}, {4, api.Single}, {1<<32 + 1, api.Single}, {math.MinInt, api.Single}, {math.MaxInt, api.Single},
	} {
		for n := range len(long) + 1 {
			p, m := made(3, 4)
			p.SetLine(1, api.Line{Cells: long[:n:n], Size: x.size})
			m.cells[1] = []api.Cell{blank, blank, blank, blank}
			copy(m.cells[1], long[:n])
			m.sizes[1] = x.want
			check(t, "P7.1", p, m, "SetLine", n, x.size)
		}
	}
	for _, row := range append([]int{-1, 3, 500}, far...) {
		p, m := made(3, 4)
		p.SetLine(row, api.Line{Cells: long, Size: api.Wide})
		check(t, "P7.1", p, m, "SetLine where there is no row", row)
	}
}

func TestAtAndPut(t *testing.T) {
	x := api.Cell{Glyph: 0x2500, Rend: 200, Kept: true}
	numbers := append([]int{-2, -1, 0, 1, 2, 3, 4, 5}, far...)
	for _, row := range numbers {
		for _, col := range numbers {
			p, m := made(3, 4)
			at := api.Pos{Row: row, Col: col}
			want := blank
			if m.has(row, col) {
				want = m.cells[row][col]
			}
			if got := p.At(at); got != want {
				t.Errorf("P7.1: At(%v) = %v, not %v", at, got, want)
			}
			p.Put(at, x)
			if m.has(row, col) {
				m.cells[row][col], want = x, x
			}
			check(t, "P7.1", p, m, "Put", at)
			if got := p.At(at); got != want {
				t.Errorf("P7.1: At(%v) behind Put = %v, not %v", at, got, want)
			}
		}
	}
}

func TestExamples(t *testing.T) {
	letters := func() *page.Page {
		p := page.New(3, 2)
		for i, g := range "abcdef" {
			p.Put(api.Pos{Row: i / 2, Col: i % 2}, api.Cell{Glyph: g})
		}
		return p
	}
	p := letters()
	p.Up(api.Box{Bottom: 3, Right: 1}, 1)
	if got := shown(p); got != "cb/0 ed/0  f/0 " {
		t.Errorf("P7.2: the first example: Up: %s", got)
	}
	p = letters()
	p.Left(api.Box{Bottom: 1, Right: 2}, 1)
	if got := shown(p); got != "b /0 cd/0 ef/0 " {
		t.Errorf("P7.2: the first example: Left: %s", got)
	}
	p = letters()
	p.Copy(p, api.Box{Bottom: 2, Right: 1}, api.Pos{Row: 1, Col: 1})
	if got := shown(p); got != "ab/0 ca/0 ec/0 " {
		t.Errorf("P7.4: the first example: Copy: %s", got)
	}
}

func TestUpAndDown(t *testing.T) {
	for _, s := range sizes {
		for _, b := range boxes(s[0], s[1]) {
			for _, n := range counts {
				p, m := made(s[0], s[1])
				p.Up(b, n)
				check(t, "P7.2", p, m.moved(b, held(n), 0), "Up", s, b, n)
				p, m = made(s[0], s[1])
				p.Down(b, n)
				check(t, "P7.2", p, m.moved(b, -held(n), 0), "Down", s, b, n)
			}
		}
	}
}

func TestLeftAndRight(t *testing.T) {
	for _, s := range sizes {
		for _, b := range boxes(s[0], s[1]) {
			for _, n := range counts {
				p, m := made(s[0], s[1])
				p.Left(b, n)
				check(t, "P7.2", p, m.moved(b, 0, held(n)), "Left", s, b, n)
				p, m = made(s[0], s[1])
				p.Right(b, n)
				check(t, "P7.2", p, m.moved(b, 0, -held(n)), "Right", s, b, n)
			}
		}
	}
}

// A box that has all columns takes sizes along, one that lacks a column doesn't.
func TestSizesOfLinesThatMove(t *testing.T) {
	stay := []int{api.Wide, api.Upper, api.Lower, api.Wide}
	for _, x := range []struct {
		name     string
		b        api.Box
		up, down []int
	}{
		{"whole lines", api.Box{Bottom: 4, Right: 3}, []int{api.Upper, api.Lower, api.Wide, api.Single}, []int{api.Single, api.Wide, api.Upper, api.Lower}},
		{"whole lines, and beyond", api.Box{Top: -5, Left: -7, Bottom: 40, Right: 30}, []int{api.Upper, api.Lower, api.Wide, api.Single}, []int{api.Single, api.Wide, api.Upper, api.Lower}},
		{"some whole lines", api.Box{Top: 1, Bottom: 3, Right: 3}, []int{api.Wide, api.Lower, api.Single, api.Wide}, []int{api.Wide, api.Single, api.Upper, api.Wide}},
		{"one column less", api.Box{Bottom: 4, Right: 2}, stay, stay},
		{"one column less on the left", api.Box{Left: 1, Bottom: 4, Right: 3}, stay, stay},
	} {
		for i, want := range [][]int{x.up, x.down} {
			p := page.New(4, 3)
			for row, size := range stay {
				p.SetLine(row, api.Line{Size: size})
			}
			if i == 0 {
				p.Up(x.b, 1)
			} else {
				p.Down(x.b, 1)
			}
			if got := told(p).sizes; !slices.Equal(got, want) {
				t.Errorf("P7.2: %s go up (0) or down (1): %d: sizes %v, not %v", x.name, i, got, want)
			}
		}
	}
}

func TestFillAndErase(t *testing.T) {
	x := api.Cell{Glyph: 0x2588, Rend: 255, Kept: true}
	for _, s := range sizes {
		for _, b := range boxes(s[0], s[1]) {
			p, m := made(s[0], s[1])
			p.Fill(b, x)
			check(t, "P7.3", p, m.each(b, func(api.Cell) api.Cell { return x }), "Fill", s, b)
			p, m = made(s[0], s[1])
			p.Fill(b, api.Cell{})
			check(t, "P7.3", p, m.each(b, func(api.Cell) api.Cell { return api.Cell{} }), "Fill with the zero cell", s, b)
			p, m = made(s[0], s[1])
			p.Erase(b)
			check(t, "P7.3", p, m.each(b, func(api.Cell) api.Cell { return blank }), "Erase", s, b)
		}
	}
}

func TestCleanAndKeep(t *testing.T) {
	clean := func(c api.Cell) api.Cell {
		if !c.Kept {
			c.Glyph = 32
		}
		return c
	}
	for _, s := range sizes {
		for _, b := range boxes(s[0], s[1]) {
			p, m := made(s[0], s[1])
			p.Clean(b)
			check(t, "P7.3", p, m.each(b, clean), "Clean", s, b)
			for _, kept := range []bool{true, false} {
				p, m = made(s[0], s[1])
				p.Keep(b, kept)
				check(t, "P7.3", p, m.each(b, func(c api.Cell) api.Cell { c.Kept = kept; return c }), "Keep", s, b, kept)
			}
		}
	}
}

func TestChangeAndFlip(t *testing.T) {
	lists := [][]int{nil, {}, {0}, {1}, {1, 4, 22}, {0, 5}, {8, 28, 7, 7}, {3, -1, 65535, math.MaxInt}}
	for _, s := range sizes {
		for _, b := range boxes(s[0], s[1]) {
			for _, list := range lists {
				p, m := made(s[0], s[1])
				p.Change(b, list...)
				check(t, "P7.3", p, m.each(b, func(c api.Cell) api.Cell { c.Rend = rend.Apply(c.Rend, list...); return c }), "Change", s, b, list)
				p, m = made(s[0], s[1])
				p.Flip(b, list...)
				check(t, "P7.3", p, m.each(b, func(c api.Cell) api.Cell { c.Rend = rend.Flip(c.Rend, list...); return c }), "Flip", s, b, list)
			}
		}
	}
}

func TestCells(t *testing.T) {
	for _, s := range sizes {
		p, m := made(s[0], s[1])
		for _, b := range boxes(s[0], s[1]) {
			var want [][]api.Cell
			for row := range m.cells {
				var cells []api.Cell
				for col, c := range m.cells[row] {
					if m.inside(b, row, col) {
						cells = append(cells, c)
					}
				}
				if cells != nil {
					want = append(want, cells)
				}
			}
			if got := p.Cells(b); !slices.EqualFunc(got, want, slices.Equal[[]api.Cell]) {
				t.Fatalf("P7.3: Cells(%v) = %v, not %v", b, got, want)
			}
		}
		check(t, "P7.3", p, m, "Cells")
	}
}

// places are about a small page, and far from it.
func places() []api.Pos {
	var list []api.Pos
	for row := -3; row <= 3; row++ {
		for col := -3; col <= 3; col++ {
			list = append(list, api.Pos{Row: row, Col: col})
		}
	}
	for _, row := range []int{math.MinInt, -65536, 0, 65536, math.MaxInt} {
		for _, col := range []int{math.MinInt, -1 << 32, 0, 1 << 32, math.MaxInt} {
			list = append(list, api.Pos{Row: row, Col: col})
		}
	}
	return list
}

func TestCopyOfAnotherPage(t *testing.T) {
	for _, x := range []struct{ from, to [2]int }{
		{[2]int{3, 2}, [2]int{2, 3}}, {[2]int{2, 3}, [2]int{3, 3}}, {[2]int{1, 1}, [2]int{2, 2}}, {[2]int{3, 3}, [2]int{1, 1}},
	} {
		for _, b := range boxes(x.from[0], x.from[1]) {
			for _, at := range places() {
				from, f := made(x.from[0], x.from[1])
				p, m := page.New(x.to[0], x.to[1]), newModel(x.to[0], x.to[1])
				p.SetLine(0, api.Line{Size: api.Upper})
				m.sizes[0] = api.Upper
				p.Copy(from, b, at)
				check(t, "P7.4", p, m.laid(f, b, at), "Copy", x, b, at)
				check(t, "P7.4", from, f, "the page that was copied from", x, b, at)
			}
		}
	}
}

func TestCopyOfThePageItself(t *testing.T) {
	for _, s := range [][2]int{{3, 3}, {2, 4}} {
		for _, b := range boxes(s[0], s[1]) {
			for _, at := range places() {
				p, m := made(s[0], s[1])
				p.Copy(p, b, at)
				check(t, "P7.4", p, m.laid(m, b, at), "Copy of itself", s, b, at)
			}
		}
	}
}

func TestResize(t *testing.T) {
	for _, s := range sizes {
		for _, rows := range append([]int{-1, 0, 1, 2, 3, 4, 5}, far...) {
			for _, cols := range []int{math.MinInt, -1, 0, 1, 2, 3, 4, 5, 1 << 32, math.MaxInt} {
				p, m := made(s[0], s[1])
				p.Resize(rows, cols)
				check(t, "P7.1", p, m.resized(rows, cols), "Resize", s, rows, cols)
			}
		}
	}
}

// What was beyond a smaller page doesn't come back.
func TestResizeForthAndBack(t *testing.T) {
	p, m := made(3, 4)
	p.Resize(2, 2)
	p.Resize(3, 4)
	check(t, "P7.1", p, m.resized(2, 2).resized(3, 4), "Resize to less, and back")
}

func TestClone(t *testing.T) {
	for _, s := range sizes {
		p, m := made(s[0], s[1])
		q := p.Clone()
		if q == p {
			t.Fatalf("P7.1: Clone answers the page itself")
		}
		check(t, "P7.1", q, m, "Clone", s)
		scramble(q)
		check(t, "P7.6", p, m, "a page whose Clone is changed", s)
		q = p.Clone()
		scramble(p)
		check(t, "P7.6", q, m, "a Clone of a page that is changed", s)
	}
}

// scramble changes all that a page has.
func scramble(p *page.Page) {
	for row := range p.Rows() {
		for col := range p.Cols() {
			p.Put(api.Pos{Row: row, Col: col}, api.Cell{Glyph: 0x7777, Rend: 77, Kept: true})
		}
	}
	p.Down(p.Box(), 1)
	p.SetLine(0, api.Line{Size: api.Lower})
	p.Resize(7, 7)
}

func TestSame(t *testing.T) {
	for _, s := range sizes {
		p, _ := made(s[0], s[1])
		q, _ := made(s[0], s[1])
		if !p.Same(q) || !q.Same(p) || !p.Same(p) || !p.Same(p.Clone()) {
			t.Errorf("P7.1: pages of %v that are alike aren't the Same", s)
		}
		for row := range s[0] {
			for col := range s[1] {
				at := api.Pos{Row: row, Col: col}
				for _, change := range []api.Cell{{Glyph: 1}, {Rend: 64}, {Kept: true}} {
					q = p.Clone()
					c := q.At(at)
					q.Put(at, api.Cell{Glyph: c.Glyph ^ change.Glyph, Rend: c.Rend ^ change.Rend, Kept: c.Kept != change.Kept})
					if p.Same(q) || q.Same(p) {
						t.Errorf("P7.1: pages of %v are the Same, though their cells at %v are unlike", s, at)
					}
				}
			}
			q = p.Clone()
			l := q.Line(row)
			l.Size = (l.Size + 1) % 4
			q.SetLine(row, l)
			if p.Same(q) || q.Same(p) {
				t.Errorf("P7.1: pages of %v are the Same, though their lines %d are of unlike sizes", s, row)
			}
		}
	}
	for _, x := range [][2][2]int{{{2, 3}, {3, 2}}, {{2, 2}, {2, 3}}, {{2, 2}, {3, 2}}, {{1, 1}, {1, 2}}} {
		p, q := page.New(x[0][0], x[0][1]), page.New(x[1][0], x[1][1])
		if p.Same(q) || q.Same(p) {
			t.Errorf("P7.1: pages of unlike sizes are the Same: %v", x)
		}
	}
}

// emptyAnswers tells what of a page without rows isn't as it is said; "" if all is.
func emptyAnswers(p *page.Page) string {
	whole := api.Box{Bottom: 9, Right: 9}
	if p.Rows() != 0 || p.Cols() != 0 || p.Box() != (api.Box{}) {
		return "Rows, Cols, Box"
	}
	if l := p.Line(0); len(l.Cells) != 0 || l.Size != 0 {
		return "Line"
	}
	if p.At(api.Pos{}) != blank {
		return "At"
	}
	if len(p.Cells(whole)) != 0 {
		return "Cells"
	}
	if p.Same(page.New(1, 1)) || page.New(1, 1).Same(p) || !p.Same(p) || !p.Same(p.Clone()) {
		return "Same, Clone"
	}
	return ""
}

// changes are all calls that change a page.
func changes(p *page.Page, from *page.Page) {
	whole := api.Box{Top: -9, Left: -9, Bottom: 9, Right: 9}
	p.SetLine(0, api.Line{Cells: []api.Cell{{Glyph: 'x'}}, Size: api.Wide})
	p.Put(api.Pos{}, api.Cell{Glyph: 'x'})
	p.Up(whole, 1)
	p.Down(whole, math.MaxInt)
	p.Left(whole, 1)
	p.Right(whole, 1)
	p.Fill(whole, api.Cell{Glyph: 'x'})
	p.Erase(whole)
	p.Clean(whole)
	p.Change(whole, 1)
	p.Flip(whole)
	p.Keep(whole, true)
	p.Copy(from, whole, api.Pos{})
	p.Copy(p, whole, api.Pos{Row: math.MinInt, Col: math.MaxInt})
}

func TestZeroPage(t *testing.T) {
	var p page.Page
	if what := emptyAnswers(&p); what != "" {
		t.Errorf("P7.1: the zero Page: %s", what)
	}
	from, m := made(2, 2)
	changes(&p, from)
	if what := emptyAnswers(&p); what != "" {
		t.Errorf("P7.1: the zero Page behind what changes pages: %s", what)
	}
	from.Copy(&p, api.Box{Bottom: 9, Right: 9}, api.Pos{})
	check(t, "P7.4", from, m, "Copy of the zero Page")
	p.Resize(2, 3)
	check(t, "P7.1", &p, newModel(2, 3), "Resize of the zero Page")
}

// A book answers a nil page where there is none: that may be handed in, and has no rows.
func TestNilPage(t *testing.T) {
	var p *page.Page
	if what := emptyAnswers(p); what != "" {
		t.Errorf("P7.1: a nil page: %s", what)
	}
	from, m := made(2, 2)
	changes(p, from)
	p.Resize(2, 2)
	if p.Clone() != nil {
		t.Errorf("P7.1: Clone of a nil page isn't nil")
	}
	from.Copy(p, api.Box{Bottom: 9, Right: 9}, api.Pos{})
	check(t, "P7.4", from, m, "Copy of a nil page")
}

// spare is a row with room behind it.
func spare(n int) []api.Cell {
	cells := make([]api.Cell, n, n+4)
	for i := range cells[:cap(cells)] {
		cells[:cap(cells)][i] = api.Cell{Glyph: rune('p' + i)}
	}
	return cells
}

func TestWhatIsHandedInStays(t *testing.T) {
	for n := range 6 {
		cells := spare(n)
		before := slices.Clone(cells[:cap(cells)])
		p, m := made(2, 3)
		p.SetLine(0, api.Line{Cells: cells, Size: api.Wide})
		m.cells[0] = []api.Cell{blank, blank, blank}
		copy(m.cells[0], cells)
		m.sizes[0] = api.Wide
		check(t, "P7.6", p, m, "SetLine", n)
		changed := cells[:cap(cells)]
		if !slices.Equal(changed, before) {
			t.Errorf("P7.6: SetLine changes the line that is handed in: %v", changed)
		}
		for i := range changed {
			changed[i] = api.Cell{Glyph: 0x7777}
		}
		check(t, "P7.6", p, m, "a page whose handed-in line is changed", n)
		copy(changed, before)
		scramble(p)
		if !slices.Equal(changed, before) {
			t.Errorf("P7.6: a page keeps the line that is handed in")
		}
	}
	numbers := []int{1, 4, 22, 99, 98}[:3]
	p, _ := made(2, 2)
	p.Change(p.Box(), numbers...)
	p.Flip(p.Box(), numbers...)
	if !slices.Equal(numbers[:5], []int{1, 4, 22, 99, 98}) {
		t.Errorf("P7.6: the numbers that are handed in are changed: %v", numbers[:5])
	}
}

func scribble(cells []api.Cell) {
	cells = cells[:cap(cells)]
	for i := range cells {
		cells[i] = api.Cell{Glyph: 0x7777, Rend: 77, Kept: true}
	}
}

func TestAnswersAreNewMemory(t *testing.T) {
	p, m := made(3, 4)
	other := p.Line(1)
	scribble(p.Line(1).Cells)
	check(t, "P7.6", p, m, "a page whose Line is changed")
	if !slices.Equal(other.Cells, m.cells[1]) {
		t.Errorf("P7.6: answers of Line share memory")
	}
	b := api.Box{Bottom: 3, Right: 3}
	rows, again := p.Cells(b), p.Cells(b)
	for i, row := range rows {
		scribble(row)
		for j := i + 1; j < len(rows); j++ {
			if !slices.Equal(rows[j], m.cells[j][:3]) {
				t.Errorf("P7.6: rows of one answer of Cells share memory")
			}
		}
	}
	check(t, "P7.6", p, m, "a page whose Cells are changed")
	for i, row := range again {
		if !slices.Equal(row, m.cells[i][:3]) {
			t.Errorf("P7.6: answers of Cells share memory")
		}
	}
	scramble(p)
	for i, row := range again {
		if !slices.Equal(row, m.cells[i][:3]) {
			t.Errorf("P7.6: what is done with a page shows in an answer of Cells")
		}
	}
	if !slices.Equal(other.Cells, m.cells[1]) {
		t.Errorf("P7.6: what is done with a page shows in an answer of Line")
	}
}

// Behind every call that moves or copies, no two lines of a page, nor those of two pages, share cells.
func TestLinesShareNoMemory(t *testing.T) {
	from, _ := made(4, 3)
	for i, do := range []func(p *page.Page){
		func(p *page.Page) {},
		func(p *page.Page) { p.Up(p.Box(), 1) },
		func(p *page.Page) { p.Down(p.Box(), 2) },
		func(p *page.Page) { p.Up(api.Box{Bottom: 4, Right: 2}, 1) },
		func(p *page.Page) { p.Down(api.Box{Left: 1, Bottom: 4, Right: 3}, 1) },
		func(p *page.Page) { p.Up(p.Box(), 9) },
		func(p *page.Page) { p.Copy(p, p.Box(), api.Pos{Row: 1}) },
		func(p *page.Page) { p.Copy(from, from.Box(), api.Pos{}) },
		func(p *page.Page) { p.Resize(6, 3) },
		func(p *page.Page) { p.Fill(p.Box(), api.Cell{Glyph: 'x'}) },
		func(p *page.Page) { p.Left(p.Box(), 1) },
	} {
		p, _ := made(4, 3)
		do(p)
		for row := range p.Rows() {
			m := told(p)
			at := api.Pos{Row: row, Col: 1}
			c := api.Cell{Glyph: 0x7777, Rend: 77, Kept: true}
			p.Put(at, c)
			m.cells[row][1] = c
			check(t, "P7.6", p, m, "Put behind the change", i, at)
		}
		if f, m := made(4, 3); unlike(from, m) != "" || !from.Same(f) {
			t.Fatalf("P7.6: the change %d shows in the page that was copied from", i)
		}
	}
}

// told is the model of what a page tells of itself.
func told(p *page.Page) model {
	var m model
	for row := range p.Rows() {
		l := p.Line(row)
		m.cells = append(m.cells, l.Cells)
		m.sizes = append(m.sizes, l.Size)
	}
	return m
}

// randomBox is one about a page; now and then it has no place.
func randomBox(rnd *rand.Rand, m model) api.Box {
	some := func(n int) (int, int) {
		a, b := rnd.Intn(n+3)-1, rnd.Intn(n+3)-1
		if rnd.Intn(10) != 0 {
			a, b = min(a, b), max(a, b)
		}
		if rnd.Intn(3) == 0 {
			a, b = 0, n
		}
		return a, b
	}
	var b api.Box
	b.Top, b.Bottom = some(len(m.cells))
	b.Left, b.Right = some(m.cols())
	return b
}

// Any calls, one behind the other.
func TestAnyCalls(t *testing.T) {
	rnd := rand.New(rand.NewSource(71))
	p, m := page.New(5, 6), newModel(5, 6)
	for step := range 20000 {
		b, n := randomBox(rnd, m), rnd.Intn(5)-1
		at := api.Pos{Row: rnd.Intn(9) - 2, Col: rnd.Intn(9) - 2}
		c := api.Cell{Glyph: rune('a' + rnd.Intn(26)), Rend: api.Rend(rnd.Intn(32)), Kept: rnd.Intn(3) == 0}
		kind := rnd.Intn(14)
		switch kind {
		case 0:
			p.Up(b, n)
			m = m.moved(b, held(n), 0)
		case 1:
			p.Down(b, n)
			m = m.moved(b, -held(n), 0)
		case 2:
			p.Left(b, n)
			m = m.moved(b, 0, held(n))
		case 3:
			p.Right(b, n)
			m = m.moved(b, 0, -held(n))
		case 4:
			p.Copy(p, b, at)
			m = m.laid(m, b, at)
		case 5:
			p.Clean(b)
			m = m.each(b, func(c api.Cell) api.Cell {
				if !c.Kept {
					c.Glyph = 32
				}
				return c
			})
		case 6:
			p.Flip(b, n, 4)
			m = m.each(b, func(c api.Cell) api.Cell { c.Rend = rend.Flip(c.Rend, n, 4); return c })
		case 7:
			if rnd.Intn(8) == 0 {
				p.Resize(at.Row+3, at.Col+4)
				m = m.resized(at.Row+3, at.Col+4)
			}
		case 8:
			old := p
			p = old.Clone()
			scramble(old)
		case 9:
			row := rnd.Intn(len(m.cells))
			l := p.Line(row)
			l.Size = rnd.Intn(4)
			p.SetLine(row, l)
			m.sizes[row] = l.Size
		default:
			p.Put(at, c)
			if m.has(at.Row, at.Col) {
				m.cells[at.Row][at.Col] = c
			}
		}
		check(t, "P7.2 to P7.5", p, m, "one of many calls", step, kind, b, n, at)
	}
}

func TestTheGreatestPage(t *testing.T) {
	p := page.New(math.MaxInt, math.MaxInt)
	last := api.Pos{Row: 499, Col: 499}
	p.Put(last, api.Cell{Glyph: 'z'})
	p.Up(p.Box(), 499)
	if got := p.At(api.Pos{Col: 499}); got.Glyph != 'z' {
		t.Errorf("P7.2: Up of 500 rows by 499: %v", got)
	}
	p.Down(api.Box{Left: 1, Bottom: math.MaxInt, Right: math.MaxInt}, 499)
	p.Left(p.Box(), 499)
	if got := p.At(api.Pos{Row: 499}); got.Glyph != 'z' {
		t.Errorf("P7.2: Down by 499, and Left by 499: %v", got)
	}
	p.Up(p.Box(), math.MaxInt)
	if !p.Same(page.New(500, 500)) {
		t.Errorf("P7.2: Up of all rows leaves something")
	}
}
