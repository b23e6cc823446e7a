package curs_test

import (
	"math"
	"testing"

	"phosphor/api"
	"phosphor/charset"
	"phosphor/curs"
	"phosphor/iso"
)

// counts are all about small pages, and some that would overflow, if they were added to anything, or come round, if they were cut short.
var counts = []int{math.MinInt, -1 << 32, -2, -1, 0, 1, 2, 3, 4, 5, 1<<32 + 1, math.MaxInt - 1, math.MaxInt}

// span is some rows, or some columns: from one on and below another one.
type span struct{ from, below int }

func (s span) has(n int) bool {
	return s.from <= n && n < s.below
}

// taken are the margins on a page of so many rows and columns: by the document's words, place by place.
func taken(rows, cols int, margins api.Box) (span, span) {
	inRows, inCols := span{0, 0}, span{0, 0}
	for n := rows - 1; n >= 0; n-- {
		if (span{margins.Top, margins.Bottom}).has(n) {
			inRows = span{n, max(inRows.below, n+1)}
		}
	}
	for n := cols - 1; n >= 0; n-- {
		if (span{margins.Left, margins.Right}).has(n) {
			inCols = span{n, max(inCols.below, n+1)}
		}
	}
	if inRows.below == 0 || inCols.below == 0 {
		return span{0, rows}, span{0, cols}
	}
	return inRows, inCols
}

// near is the one of 0 to n - 1 that is nearest to another number.
func near(n, at int) int {
	best := 0
	for i := range n {
		if i <= at {
			best = i
		}
	}
	return best
}

// walked is where one stands behind so many steps of 1 or of -1, none of them over the margin or the edge.
func walked(at, n, step, edge, margin int) int {
	for range min(max(n, 0), 100) {
		if at == edge || at == margin {
			break
		}
		at += step
	}
	return at
}

// counted is the one of a span of this number, from 0 on; its nearest one beyond that.
func counted(s span, n int) int {
	return s.from + near(s.below-s.from, n)
}

// into is the one of a span that is nearest.
func into(s span, at int) int {
	for n := s.from; n < s.below; n++ {
		if at <= n {
			return n
		}
	}
	return s.below - 1
}

// spans are the margins about so many rows or columns; some of them have nothing.
func spans(n int) []span {
	var list []span
	for from := -1; from <= n; from++ {
		for below := from; below <= n+1; below++ {
			list = append(list, span{from, below})
		}
	}
	return append(list, span{1, math.MaxInt}, span{math.MinInt, 2}, span{math.MaxInt, math.MinInt})
}

// places are all on a small page, some about it, and some far from it.
func places(rows, cols int) []api.Pos {
	var list []api.Pos
	for row := -1; row <= rows; row++ {
		for col := -1; col <= cols; col++ {
			list = append(list, api.Pos{Row: row, Col: col})
		}
	}
	return append(list, api.Pos{Row: math.MinInt, Col: math.MaxInt}, api.Pos{Row: math.MaxInt, Col: math.MinInt}, api.Pos{Row: 1 << 32, Col: 1 << 32})
}

// full is a cursor of which nothing is zero: what a move is to leave as it is, can be told.
func full(at api.Pos, wrap, origin bool) curs.Cursor {
	return curs.Cursor{Pos: at, Rend: 0xFF, Kept: true, Wrap: wrap, Origin: origin, Sets: iso.State{G: [4]int{charset.German, charset.Latin, -5, 99}, GL: 1, GR: 3, Single: 7}}
}

// each goes through small pages, all margins, places, and counting from the margins or not. The Page's Top and Left are to make no difference.
func each(do func(f curs.Frame, rows, cols span, whole api.Pos, c curs.Cursor)) {
	for _, size := range [][2]int{{1, 1}, {1, 3}, {3, 1}, {3, 4}} {
		for _, r := range spans(size[0]) {
			for _, k := range spans(size[1]) {
				margins := api.Box{Top: r.from, Bottom: r.below, Left: k.from, Right: k.below}
				f := curs.Frame{Page: api.Box{Top: 2, Left: -9, Bottom: size[0], Right: size[1]}, Margins: margins}
				rows, cols := taken(size[0], size[1], margins)
				for _, at := range places(size[0], size[1]) {
					for i := range 4 {
						do(f, rows, cols, api.Pos{Row: size[0], Col: size[1]}, full(at, i&1 != 0, i&2 != 0))
					}
				}
			}
		}
	}
}

func TestNew(t *testing.T) {
	want := curs.Cursor{Sets: iso.State{G: [4]int{charset.Ascii, charset.Ascii, charset.Supplemental, charset.Supplemental}, GR: 2}}
	if got := curs.New(); got != want {
		t.Errorf("P13.1: New = %v", got)
	}
}

func TestFrameIsTaken(t *testing.T) {
	for _, x := range []struct{ page, margins, whole, inner api.Box }{
		{api.Box{Bottom: 24, Right: 80}, api.Box{Top: 5, Left: 2, Bottom: 10, Right: 70}, api.Box{Bottom: 24, Right: 80}, api.Box{Top: 5, Left: 2, Bottom: 10, Right: 70}},
		{api.Box{Bottom: 24, Right: 80}, api.Box{Top: -5, Left: 2, Bottom: 10, Right: 700}, api.Box{Bottom: 24, Right: 80}, api.Box{Left: 2, Bottom: 10, Right: 80}},
		// The Page's Top and Left don't count.
		{api.Box{Top: 7, Left: 99, Bottom: 24, Right: 80}, api.Box{Bottom: 1, Right: 1}, api.Box{Bottom: 24, Right: 80}, api.Box{Bottom: 1, Right: 1}},
		{api.Box{Top: -7, Left: -9, Bottom: 2, Right: 3}, api.Box{Top: -7, Left: -9, Bottom: 2, Right: 3}, api.Box{Bottom: 2, Right: 3}, api.Box{Bottom: 2, Right: 3}},
		// At least one row and one column.
		{api.Box{}, api.Box{}, api.Box{Bottom: 1, Right: 1}, api.Box{Bottom: 1, Right: 1}},
		{api.Box{Bottom: -3, Right: 5}, api.Box{Left: 2, Bottom: 9, Right: 9}, api.Box{Bottom: 1, Right: 5}, api.Box{Left: 2, Bottom: 1, Right: 5}},
		{api.Box{Bottom: 5, Right: math.MinInt}, api.Box{Top: 1, Left: 1, Bottom: 3, Right: 2}, api.Box{Bottom: 5, Right: 1}, api.Box{Bottom: 5, Right: 1}},
		// Margins of no place on the page are all of it.
		{api.Box{Bottom: 4, Right: 6}, api.Box{Top: 2, Left: 3, Bottom: 2, Right: 5}, api.Box{Bottom: 4, Right: 6}, api.Box{Bottom: 4, Right: 6}},
		{api.Box{Bottom: 4, Right: 6}, api.Box{Top: 1, Left: 5, Bottom: 2, Right: 3}, api.Box{Bottom: 4, Right: 6}, api.Box{Bottom: 4, Right: 6}},
		{api.Box{Bottom: 4, Right: 6}, api.Box{Top: 4, Bottom: 9, Right: 6}, api.Box{Bottom: 4, Right: 6}, api.Box{Bottom: 4, Right: 6}},
		{api.Box{Bottom: 4, Right: 6}, api.Box{Top: -4, Bottom: 0, Right: 6}, api.Box{Bottom: 4, Right: 6}, api.Box{Bottom: 4, Right: 6}},
		{api.Box{Bottom: math.MaxInt, Right: math.MaxInt}, api.Box{Top: math.MinInt, Left: 1, Bottom: math.MaxInt, Right: math.MaxInt}, api.Box{Bottom: math.MaxInt, Right: math.MaxInt}, api.Box{Left: 1, Bottom: math.MaxInt, Right: math.MaxInt}},
	} {
		f := curs.Frame{Page: x.page, Margins: x.margins}
		if got := f.Whole(); got != x.whole {
			t.Errorf("P13.1: %v: Whole = %v, not %v", f, got, x.whole)
		}
		if got := f.Inner(); got != x.inner {
			t.Errorf("P13.1: %v: Inner = %v, not %v", f, got, x.inner)
		}
		if got := f.Area(true); got != x.inner {
			t.Errorf("P13.1: %v: Area(true) = %v, not %v", f, got, x.inner)
		}
		if got := f.Area(false); got != x.whole {
			t.Errorf("P13.1: %v: Area(false) = %v, not %v", f, got, x.whole)
		}
	}
}

func TestInnerOfAllMargins(t *testing.T) {
	each(func(f curs.Frame, rows, cols span, size api.Pos, _ curs.Cursor) {
		want := api.Box{Top: rows.from, Left: cols.from, Bottom: rows.below, Right: cols.below}
		whole := api.Box{Bottom: size.Row, Right: size.Col}
		if f.Inner() != want || f.Area(true) != want || f.Whole() != whole || f.Area(false) != whole {
			t.Fatalf("P13.1: %v: Inner = %v, not %v; Whole = %v", f, f.Inner(), want, f.Whole())
		}
	})
}

func TestInside(t *testing.T) {
	each(func(f curs.Frame, rows, cols span, size api.Pos, c curs.Cursor) {
		want := rows.has(near(size.Row, c.Row)) && cols.has(near(size.Col, c.Col))
		if got := c.Inside(f); got != want {
			t.Fatalf("P13.1: %v at %v: Inside = %v", f, c.Pos, got)
		}
	})
}

// A place that isn't on the page counts as the nearest one of it.
func TestInsideFromAfar(t *testing.T) {
	page := api.Box{Bottom: 4, Right: 6}
	for _, x := range []struct {
		margins api.Box
		at      api.Pos
		want    bool
	}{
		{api.Box{Top: 3, Left: 5, Bottom: 4, Right: 6}, api.Pos{Row: 99, Col: 99}, true},
		{api.Box{Top: 2, Left: 5, Bottom: 3, Right: 6}, api.Pos{Row: 99, Col: 99}, false},
		{api.Box{Bottom: 1, Right: 1}, api.Pos{Row: -3, Col: math.MinInt}, true},
		{api.Box{Bottom: 1, Right: 1}, api.Pos{Row: -3, Col: 1}, false},
		{api.Box{}, api.Pos{Row: math.MaxInt, Col: math.MinInt}, true},
	} {
		if got := (curs.Cursor{Pos: x.at}).Inside(curs.Frame{Page: page, Margins: x.margins}); got != x.want {
			t.Errorf("P13.1: %v: Inside(%v) = %v", x.at, x.margins, got)
		}
	}
}

// behind holds a cursor against the one that it is to be: at another place, its Wrap false, all else as it was.
func behind(t *testing.T, what string, f curs.Frame, ahead curs.Cursor, n int, got curs.Cursor, row, col int) {
	t.Helper()
	want := ahead
	want.Pos = api.Pos{Row: row, Col: col}
	want.Wrap = false
	if got != want {
		t.Fatalf("P13.2: %v: %s(%d) of %v = %v, not %v", f, what, n, ahead, got, want)
	}
}

func TestUpAndDown(t *testing.T) {
	each(func(f curs.Frame, rows, _ span, size api.Pos, c curs.Cursor) {
		row, col := near(size.Row, c.Row), near(size.Col, c.Col)
		for _, n := range counts {
			behind(t, "Up", f, c, n, c.Up(f, n), walked(row, n, -1, 0, rows.from), col)
			behind(t, "Down", f, c, n, c.Down(f, n), walked(row, n, 1, size.Row-1, rows.below-1), col)
		}
	})
}

func TestLeftAndRight(t *testing.T) {
	each(func(f curs.Frame, _, cols span, size api.Pos, c curs.Cursor) {
		row, col := near(size.Row, c.Row), near(size.Col, c.Col)
		for _, n := range counts {
			behind(t, "Left", f, c, n, c.Left(f, n), row, walked(col, n, -1, 0, cols.from))
			behind(t, "Right", f, c, n, c.Right(f, n), row, walked(col, n, 1, size.Col-1, cols.below-1))
		}
	})
}

func TestToRowAndToCol(t *testing.T) {
	each(func(f curs.Frame, rows, cols span, size api.Pos, c curs.Cursor) {
		if !c.Origin {
			rows, cols = span{0, size.Row}, span{0, size.Col}
		}
		for _, n := range counts {
			behind(t, "ToRow", f, c, n, c.ToRow(f, n), counted(rows, n), into(cols, c.Col))
			behind(t, "ToCol", f, c, n, c.ToCol(f, n), into(rows, c.Row), counted(cols, n))
		}
	})
}

func TestTo(t *testing.T) {
	each(func(f curs.Frame, rows, cols span, size api.Pos, c curs.Cursor) {
		if !c.Origin {
			rows, cols = span{0, size.Row}, span{0, size.Col}
		}
		for _, row := range []int{math.MinInt, -1, 0, 1, 2, 3, 4, math.MaxInt} {
			for _, col := range []int{math.MinInt, -1, 0, 1, 2, 3, 4, math.MaxInt} {
				behind(t, "To", f, c, row, c.To(f, row, col), counted(rows, row), counted(cols, col))
			}
		}
	})
}

func TestReturn(t *testing.T) {
	each(func(f curs.Frame, _, cols span, size api.Pos, c curs.Cursor) {
		row, col := near(size.Row, c.Row), 0
		if c.Origin || near(size.Col, c.Col) >= cols.from {
			col = cols.from
		}
		behind(t, "Return", f, c, 0, c.Return(f), row, col)
	})
}

// Where a page is as great as a number can tell, no number comes round.
func TestMovesOnTheGreatestPage(t *testing.T) {
	const most = math.MaxInt
	f := curs.Frame{Page: api.Box{Bottom: most, Right: most}, Margins: api.Box{Top: 5, Left: 7, Bottom: most, Right: most}}
	c := curs.Cursor{Pos: api.Pos{Row: most - 3, Col: most - 4}}
	counting := c
	counting.Origin = true
	for _, x := range []struct {
		what string
		got  curs.Cursor
		want api.Pos
	}{
		{"Down", c.Down(f, most), api.Pos{Row: most - 1, Col: most - 4}},
		{"Down by 1", c.Down(f, 1), api.Pos{Row: most - 2, Col: most - 4}},
		{"Right", c.Right(f, most), api.Pos{Row: most - 3, Col: most - 1}},
		{"Up", c.Up(f, most), api.Pos{Row: 5, Col: most - 4}},
		{"Left", c.Left(f, most), api.Pos{Row: most - 3, Col: 7}},
		{"Left by the least", c.Left(f, math.MinInt), api.Pos{Row: most - 3, Col: most - 4}},
		{"To", counting.To(f, most, 3), api.Pos{Row: most - 1, Col: 10}},
		{"ToCol", counting.ToCol(f, most-3), api.Pos{Row: most - 3, Col: most - 1}},
		{"ToRow", counting.ToRow(f, math.MinInt), api.Pos{Row: 5, Col: most - 4}},
	} {
		if x.got.Pos != x.want {
			t.Errorf("P13.2: %s: %v, not %v", x.what, x.got.Pos, x.want)
		}
	}
}

func TestExamples(t *testing.T) {
	f := curs.Frame{Page: api.Box{Bottom: 24, Right: 80}, Margins: api.Box{Top: 5, Bottom: 10, Right: 80}}
	at := func(row int) curs.Cursor { return curs.Cursor{Pos: api.Pos{Row: row, Col: 40}} }
	for _, x := range []struct {
		what string
		got  curs.Cursor
		row  int
	}{
		{"from row 7 Up by 9", at(7).Up(f, 9), 5},
		{"from row 3 Up by 9", at(3).Up(f, 9), 0},
		{"from row 9 Down", at(9).Down(f, 1), 9},
		{"from row 10 Down by 99", at(10).Down(f, 99), 23},
		{"from row 5 Up", at(5).Up(f, 1), 5},
		{"from row 4 Up", at(4).Up(f, 1), 3},
		{"from row 23 Up by 99", at(23).Up(f, 99), 5},
		{"from row 0 Down by 99", at(0).Down(f, 99), 9},
	} {
		if x.got.Row != x.row || x.got.Col != 40 {
			t.Errorf("P13.2: an example: %s: %v", x.what, x.got.Pos)
		}
	}
}

// A move by none ends Wrap, too.
func TestWrapEnds(t *testing.T) {
	f := curs.Frame{Page: api.Box{Bottom: 24, Right: 80}}
	c := full(api.Pos{Row: 3, Col: 79}, true, false)
	for i, got := range []curs.Cursor{c.Up(f, 0), c.Down(f, 0), c.Left(f, 0), c.Right(f, 0), c.Up(f, -1), c.Down(f, -1), c.Left(f, -1), c.Right(f, 1), c.To(f, 3, 79), c.ToRow(f, 3), c.ToCol(f, 79)} {
		if got.Wrap || got.Pos != c.Pos {
			t.Errorf("P13.2: move %d that goes nowhere: %v", i, got)
		}
	}
}

func TestFit(t *testing.T) {
	for _, row := range []int{math.MinInt, -1, 0, 3, math.MaxInt} {
		for _, x := range []struct{ col, width, want int }{
			{0, 1, 0}, {0, 0, 0}, {0, -1, 0}, {0, math.MinInt, 0}, {0, math.MaxInt, 0},
			{5, 6, 5}, {5, 5, 4}, {5, 4, 3}, {5, 1, 0}, {5, 0, 0}, {5, -7, 0}, {5, math.MinInt, 0}, {5, math.MinInt + 1, 0}, {5, math.MaxInt, 5},
			{-1, 4, 0}, {-1, 0, 0}, {-1, -9, 0}, {math.MinInt, 4, 0}, {math.MinInt, math.MinInt, 0},
			{math.MaxInt, 4, 3}, {math.MaxInt, math.MaxInt, math.MaxInt - 1}, {math.MaxInt - 1, math.MaxInt, math.MaxInt - 1}, {math.MaxInt, math.MinInt, 0},
		} {
			for i := range 4 {
				c := full(api.Pos{Row: row, Col: x.col}, i&1 != 0, i&2 != 0)
				want := c
				want.Col = x.want
				want.Wrap = c.Wrap && x.want == x.col
				if got := c.Fit(x.width); got != want {
					t.Errorf("P13.2: Fit(%d) of %v = %v, not %v", x.width, c, got, want)
				}
			}
		}
	}
}

func TestMovesStay(t *testing.T) {
	each(func(f curs.Frame, rows, cols span, size api.Pos, c curs.Cursor) {
		inside := rows.has(near(size.Row, c.Row)) && cols.has(near(size.Col, c.Col))
		for _, n := range []int{math.MinInt, 0, 1, 2, math.MaxInt} {
			for i, got := range []curs.Cursor{c.Up(f, n), c.Down(f, n), c.Left(f, n), c.Right(f, n), c.Return(f), c.To(f, n, n), c.ToRow(f, n), c.ToCol(f, n)} {
				if got.Row < 0 || got.Row >= size.Row || got.Col < 0 || got.Col >= size.Col {
					t.Fatalf("P13.3: %v: move %d by %d of %v leaves the page: %v", f, i, n, c, got)
				}
				if to := i >= 5; (!to && inside || to && c.Origin) && !(rows.has(got.Row) && cols.has(got.Col)) {
					t.Fatalf("P13.3: %v: move %d by %d of %v leaves the margins: %v", f, i, n, c, got)
				}
			}
		}
	})
}

// What a call is asked of stays as it was, and what it answers has nothing in common with that.
func TestCursorsAreValues(t *testing.T) {
	f := curs.Frame{Page: api.Box{Bottom: 4, Right: 6}, Margins: api.Box{Top: 1, Left: 1, Bottom: 3, Right: 5}}
	c := full(api.Pos{Row: 2, Col: 2}, true, true)
	ahead, frame := c, f
	for _, got := range []curs.Cursor{c.Up(f, 1), c.Down(f, 1), c.Left(f, 1), c.Right(f, 1), c.To(f, 0, 0), c.ToRow(f, 0), c.ToCol(f, 0), c.Return(f), c.Fit(1)} {
		got.Sets.G[0]++
	}
	if c != ahead || f != frame {
		t.Errorf("P13.2: a move changed what it was asked of: %v, %v", c, f)
	}
}
