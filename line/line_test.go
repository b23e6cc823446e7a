package line_test

import (
	"math"
	"slices"
	"testing"

	"phosphor/api"
	"phosphor/cell"
	"phosphor/line"
	"phosphor/rend"
)

const allRends = api.Bold | api.Under | api.Blink | api.Reverse | api.Hidden

var blank = api.Cell{Glyph: 32}

// columns are beginnings, ends and counts: all about short lines, and such as would overflow, if they were added to anything.
var columns = []int{
	math.MinInt, math.MinInt + 1, math.MinInt32, -65536, -2, -1, 0, 1, 2, 3, 4, 5, 6, 7, 8,
	65536, math.MaxInt32, 1 << 32, 1<<32 + 1, math.MaxInt - 1, math.MaxInt,
}

// text is a line whose cells are unlike each other in all fields; great letters are kept.
func text(s string) api.Line {
	l := api.Line{Cells: []api.Cell{}}
	for i, g := range s {
		l.Cells = append(l.Cells, api.Cell{Glyph: g, Rend: api.Rend(i * 37), Kept: g >= 'A' && g <= 'Z'})
	}
	return l
}

// short are lines of none to six cells, of all sizes and of some that are none.
func short() []api.Line {
	list := []api.Line{{}, {Size: api.Lower}}
	for i, size := range []int{api.Single, api.Wide, api.Upper, api.Lower, -1, 4, math.MaxInt} {
		l := text("aBcdEf"[:i%7])
		l.Size = size
		list = append(list, l)
	}
	return append(list, text("aBcdEf"))
}

func glyphs(l api.Line) string {
	s := ""
	for _, c := range l.Cells {
		s += string(c.Glyph)
	}
	return s
}

// alike doesn't lean on line.Same.
func alike(a, b api.Line) bool {
	if a.Size != b.Size || len(a.Cells) != len(b.Cells) {
		return false
	}
	for i, c := range a.Cells {
		d := b.Cells[i]
		if c.Glyph != d.Glyph || c.Rend != d.Rend || c.Kept != d.Kept {
			return false
		}
	}
	return true
}

// twin is one like it, in memory of its own, with room behind it.
func twin(l api.Line) api.Line {
	cells := make([]api.Cell, len(l.Cells), len(l.Cells)+3)
	copy(cells, l.Cells)
	for i := range 3 {
		cells[:cap(cells)][len(cells)+i] = api.Cell{Glyph: rune('x' + i)}
	}
	return api.Line{Cells: cells, Size: l.Size}
}

func roomStays(l api.Line) bool {
	n := len(l.Cells)
	return glyphs(api.Line{Cells: l.Cells[:n+3][n:]}) == "xyz"
}

// scribble changes all that an answer has, and its spare room.
func scribble(cells []api.Cell) {
	cells = cells[:cap(cells)]
	for i := range cells {
		cells[i] = api.Cell{Glyph: 0x7777, Rend: 77, Kept: true}
	}
}

// inside tells by the document's words whether a column is of the span.
func inside(i, from, to int) bool {
	return i >= from && i < to
}

func TestNew(t *testing.T) {
	for _, x := range []struct{ cols, want int }{
		{0, 0}, {1, 1}, {2, 2}, {80, 80}, {499, 499}, {500, 500}, {501, 500}, {1000, 500}, {65536 + 3, 500},
		{math.MaxInt32, 500}, {1 << 32, 500}, {math.MaxInt, 500}, {-1, 0}, {-500, 0}, {math.MinInt32, 0}, {math.MinInt, 0},
	} {
		l := line.New(x.cols)
		if len(l.Cells) != x.want || l.Size != api.Single {
			t.Errorf("P3.1: New(%d): %d cells of size %d", x.cols, len(l.Cells), l.Size)
		}
		for i, c := range l.Cells {
			if c != blank {
				t.Errorf("P3.1: New(%d): the cell %d is %v", x.cols, i, c)
			}
		}
	}
}

func TestWidth(t *testing.T) {
	for _, x := range []struct{ cols, single, other int }{
		{0, 0, 0}, {1, 1, 1}, {2, 2, 1}, {3, 3, 1}, {4, 4, 2}, {5, 5, 2}, {7, 7, 3}, {80, 80, 40}, {499, 499, 249}, {500, 500, 250}, {1001, 1001, 500},
	} {
		cells := make([]api.Cell, x.cols)
		if got := line.Width(api.Line{Cells: cells}); got != x.single {
			t.Errorf("P3.1: Width of %d cells, Single: %d, not %d", x.cols, got, x.single)
		}
		for _, size := range []int{api.Wide, api.Upper, api.Lower, -1, 4, 256, 1 << 32, math.MinInt, math.MaxInt} {
			if got := line.Width(api.Line{Cells: cells, Size: size}); got != x.other {
				t.Errorf("P3.1: Width of %d cells, size %d: %d, not %d", x.cols, size, got, x.other)
			}
		}
	}
	if got := line.Width(api.Line{Size: api.Wide}); got != 0 {
		t.Errorf("P3.1: Width of no cells: %d", got)
	}
}

func TestResize(t *testing.T) {
	long := api.Line{Cells: make([]api.Cell, 600), Size: api.Upper}
	for _, l := range append(short(), long) {
		for _, cols := range append([]int{499, 500, 501, 600}, columns...) {
			want := api.Line{Size: l.Size}
			for i := 0; i < cols && i < 500; i++ {
				if i < len(l.Cells) {
					want.Cells = append(want.Cells, l.Cells[i])
				} else {
					want.Cells = append(want.Cells, blank)
				}
			}
			if got := line.Resize(l, cols); !alike(got, want) {
				t.Errorf("P3.1: Resize(%v, %d) = %v", l, cols, got)
			}
		}
	}
}

func TestSized(t *testing.T) {
	for _, l := range short() {
		for _, size := range []int{api.Single, api.Wide, api.Upper, api.Lower} {
			if got := line.Sized(l, size); !alike(got, api.Line{Cells: l.Cells, Size: size}) {
				t.Errorf("P3.1: Sized(%v, %d) = %v", l, size, got)
			}
		}
		for _, size := range []int{-1, 4, 5, 256, 257, 65537, 1 << 32, 1<<32 + 1, -1 << 32, math.MinInt, math.MinInt + 1, math.MaxInt} {
			if got := line.Sized(l, size); !alike(got, api.Line{Cells: l.Cells}) {
				t.Errorf("P3.1: Sized(%v, %d) = %v", l, size, got)
			}
		}
	}
	if api.Single != 0 || api.Wide != 1 || api.Upper != 2 || api.Lower != 3 {
		t.Error("P3.1: the sizes are others")
	}
}

func TestSame(t *testing.T) {
	list := append(short(),
		text("a"), text("b"), text("ab"), text("ba"), text("aa"),
		api.Line{Cells: []api.Cell{{}}},
		api.Line{Cells: []api.Cell{{Glyph: 1}}},
		api.Line{Cells: []api.Cell{{Rend: 1}}},
		api.Line{Cells: []api.Cell{{Rend: 32}}},
		api.Line{Cells: []api.Cell{{Kept: true}}},
		api.Line{Cells: []api.Cell{{}, {}}},
		api.Line{Cells: []api.Cell{{}, {Kept: true}}},
		api.Line{Cells: []api.Cell{{}}, Size: api.Wide},
	)
	for i, a := range list {
		for j, b := range list {
			if got := line.Same(a, twin(b)); got != alike(a, b) {
				t.Errorf("P3.1: Same of %d and %d, %v and %v: %v", i, j, a, b, got)
			}
		}
	}
	if !line.Same(api.Line{}, api.Line{Cells: []api.Cell{}}) {
		t.Error("P3.1: no cells are unlike none")
	}
}

func TestCopy(t *testing.T) {
	for _, l := range append(short(), api.Line{Cells: make([]api.Cell, 700), Size: 9}) {
		if got := line.Copy(l); !alike(got, l) {
			t.Errorf("P3.5: Copy(%v) = %v", l, got)
		}
	}
}

func TestInsertExamples(t *testing.T) {
	for _, x := range []struct {
		from, to, n int
		want        string
	}{
		{1, 4, 1, "a bcef"},
		{1, 4, 2, "a  bef"},
		{1, 4, 3, "a   ef"},
		{1, 4, 4, "a   ef"},
		{1, 4, 99, "a   ef"},
		{1, 4, 0, "abcdef"},
		{1, 4, -1, "abcdef"},
		{0, 6, 1, " abcde"},
		{5, 6, 1, "abcde "},
		{-3, 2, 1, " acdef"},
		{4, 99, 1, "abcd e"},
		{6, 99, 1, "abcdef"},
		{4, 4, 1, "abcdef"},
		{4, 1, 1, "abcdef"},
		{-9, -1, 1, "abcdef"},
		{-9, 0, 1, "abcdef"},
	} {
		if got := glyphs(line.Insert(text("abcdef"), x.from, x.to, x.n)); got != x.want {
			t.Errorf("P3.2: Insert(%d, %d, %d) = %q, not %q", x.from, x.to, x.n, got, x.want)
		}
	}
}

func TestDeleteExamples(t *testing.T) {
	for _, x := range []struct {
		from, to, n int
		want        string
	}{
		{1, 4, 2, "ad  ef"},
		{1, 4, 1, "acd ef"},
		{1, 4, 3, "a   ef"},
		{1, 4, 4, "a   ef"},
		{1, 4, 99, "a   ef"},
		{1, 4, 0, "abcdef"},
		{1, 4, -1, "abcdef"},
		{0, 6, 1, "bcdef "},
		{0, 1, 1, " bcdef"},
		{-3, 2, 1, "b cdef"},
		{4, 99, 1, "abcdf "},
		{6, 99, 1, "abcdef"},
		{4, 4, 1, "abcdef"},
		{4, 1, 1, "abcdef"},
		{-9, -1, 1, "abcdef"},
	} {
		if got := glyphs(line.Delete(text("abcdef"), x.from, x.to, x.n)); got != x.want {
			t.Errorf("P3.2: Delete(%d, %d, %d) = %q, not %q", x.from, x.to, x.n, got, x.want)
		}
	}
}

// shifted tells place by place what stands there, when a span's cells have gone by cells to the right (or left, below 0).
func shifted(l api.Line, from, to, by int) api.Line {
	want := api.Line{Size: l.Size}
	from, to = max(from, 0), min(to, len(l.Cells))
	for i, c := range l.Cells {
		if inside(i, from, to) {
			c = blank
			if inside(i-by, from, to) {
				c = l.Cells[i-by]
			}
		}
		want.Cells = append(want.Cells, c)
	}
	return want
}

func TestInsertAndDelete(t *testing.T) {
	for _, l := range short() {
		for _, from := range columns {
			for _, to := range columns {
				for _, n := range columns {
					by := min(max(n, 0), 100)
					if got := line.Insert(l, from, to, n); !alike(got, shifted(l, from, to, by)) {
						t.Fatalf("P3.2, P3.4: Insert(%v, %d, %d, %d) = %v", l, from, to, n, got)
					}
					if got := line.Delete(l, from, to, n); !alike(got, shifted(l, from, to, -by)) {
						t.Fatalf("P3.2, P3.4: Delete(%v, %d, %d, %d) = %v", l, from, to, n, got)
					}
				}
			}
		}
	}
}

// change is a call that does something with each cell of a span, and what the document says that it does.
type change struct {
	name string
	call func(l api.Line, from, to int) api.Line
	cell func(c api.Cell) api.Cell
}

func cellChanges() []change {
	list := []change{
		{"Erase", line.Erase, func(api.Cell) api.Cell { return blank }},
		{"Clean", line.Clean, func(c api.Cell) api.Cell {
			if c.Kept {
				return c
			}
			return api.Cell{Glyph: 32, Rend: c.Rend}
		}},
	}
	for _, c := range []api.Cell{{}, blank, {Glyph: 'q', Rend: 255, Kept: true}, {Glyph: -5}, {Glyph: 'q', Rend: api.Under}} {
		list = append(list, change{"Fill",
			func(l api.Line, from, to int) api.Line { return line.Fill(l, from, to, c) },
			func(api.Cell) api.Cell { return c }})
	}
	for _, kept := range []bool{false, true} {
		list = append(list, change{"Keep",
			func(l api.Line, from, to int) api.Line { return line.Keep(l, from, to, kept) },
			func(c api.Cell) api.Cell { return api.Cell{Glyph: c.Glyph, Rend: c.Rend, Kept: kept} }})
	}
	for _, params := range [][]int{nil, {0}, {1}, {1, 4}, {4, 1, 22}, {8, 27, 99, -1}, {5, 0, 7}, {0, 1, 4, 5, 7, 8}} {
		list = append(list, change{"Change",
			func(l api.Line, from, to int) api.Line { return line.Change(l, from, to, params...) },
			func(c api.Cell) api.Cell {
				return api.Cell{Glyph: c.Glyph, Rend: rend.Apply(c.Rend, params...), Kept: c.Kept}
			}}, change{"Flip",
			func(l api.Line, from, to int) api.Line { return line.Flip(l, from, to, params...) },
			func(c api.Cell) api.Cell {
				return api.Cell{Glyph: c.Glyph, Rend: rend.Flip(c.Rend, params...), Kept: c.Kept}
			}})
	}
	return list
}

func TestCellChanges(t *testing.T) {
	for _, x := range cellChanges() {
		for _, l := range short() {
			for _, from := range columns {
				for _, to := range columns {
					want := api.Line{Size: l.Size}
					for i, c := range l.Cells {
						if inside(i, from, to) {
							c = x.cell(c)
						}
						want.Cells = append(want.Cells, c)
					}
					if got := x.call(l, from, to); !alike(got, want) {
						t.Fatalf("P3.3, P3.4: %s(%v, %d, %d) = %v, not %v", x.name, l, from, to, got, want)
					}
				}
			}
		}
	}
}

func TestCellChangesExamples(t *testing.T) {
	bold := api.Cell{Glyph: 'b', Rend: api.Bold}
	kept := api.Cell{Glyph: 'k', Rend: api.Under, Kept: true}
	strange := api.Cell{Glyph: 's', Rend: 255}
	l := api.Line{Cells: []api.Cell{bold, kept, strange}, Size: api.Wide}
	for _, x := range []struct {
		name string
		got  api.Line
		want []api.Cell
	}{
		{"Fill", line.Fill(l, 0, 2, strange), []api.Cell{strange, strange, strange}},
		{"Erase", line.Erase(l, 0, 2), []api.Cell{blank, blank, strange}},
		{"Clean", line.Clean(l, 0, 3), []api.Cell{{Glyph: 32, Rend: api.Bold}, kept, {Glyph: 32, Rend: 255}}},
		{"Clean of kept cells", line.Clean(l, 1, 2), []api.Cell{bold, kept, strange}},
		{"Change", line.Change(l, 0, 3, 4, 22), []api.Cell{
			{Glyph: 'b', Rend: api.Under}, kept, {Glyph: 's', Rend: allRends &^ api.Bold}}},
		{"Change of no numbers", line.Change(l, 0, 2), []api.Cell{
			{Glyph: 'b'}, {Glyph: 'k', Kept: true}, strange}},
		{"Flip", line.Flip(l, 0, 2, 1, 8), []api.Cell{
			{Glyph: 'b', Rend: api.Hidden}, {Glyph: 'k', Rend: api.Under | api.Bold | api.Hidden, Kept: true}, strange}},
		{"Flip of no numbers", line.Flip(l, 0, 2), []api.Cell{
			{Glyph: 'b', Rend: api.Under | api.Blink | api.Reverse}, {Glyph: 'k', Rend: api.Bold | api.Blink | api.Reverse, Kept: true}, strange}},
		{"Keep", line.Keep(l, 0, 1, true), []api.Cell{{Glyph: 'b', Rend: api.Bold, Kept: true}, kept, strange}},
		{"Keep no more", line.Keep(l, 0, 2, false), []api.Cell{bold, {Glyph: 'k', Rend: api.Under}, strange}},
	} {
		if !alike(x.got, api.Line{Cells: x.want, Size: api.Wide}) {
			t.Errorf("P3.3: %s: %v, not %v", x.name, x.got, x.want)
		}
	}
}

func TestLay(t *testing.T) {
	for _, x := range []struct {
		from, to int
		row      string
		want     string
	}{
		{1, 4, "xyz", "axyzef"},
		{1, 4, "x", "axcdef"},
		{1, 4, "vwxyz", "avwxef"},
		{1, 4, "", "abcdef"},
		{0, 6, "uvwxyz!", "uvwxyz"},
		{-2, 2, "xyz", "xycdef"},
		{4, 99, "xyz", "abcdxy"},
		{6, 99, "xyz", "abcdef"},
		{3, 3, "xyz", "abcdef"},
		{4, 3, "xyz", "abcdef"},
		{-5, -1, "xyz", "abcdef"},
	} {
		if got := glyphs(line.Lay(text("abcdef"), x.from, x.to, text(x.row).Cells)); got != x.want {
			t.Errorf("P3.3: Lay(%d, %d, %q) = %q, not %q", x.from, x.to, x.row, got, x.want)
		}
	}
	rows := [][]api.Cell{nil, {}, {{Rend: 255, Kept: true}}, {{Glyph: -1}, {Glyph: 'x', Rend: 9, Kept: true}, {Glyph: 'y'}}, make([]api.Cell, 9)}
	for _, l := range short() {
		for _, row := range rows {
			for _, from := range columns {
				for _, to := range columns {
					want := api.Line{Size: l.Size}
					for i, c := range l.Cells {
						if at := i - max(from, 0); inside(i, from, to) && at < len(row) {
							c = row[at]
						}
						want.Cells = append(want.Cells, c)
					}
					if got := line.Lay(l, from, to, row); !alike(got, want) {
						t.Fatalf("P3.3, P3.4: Lay(%v, %d, %d, %v) = %v", l, from, to, row, got)
					}
				}
			}
		}
	}
}

// A row may be a piece of the line that it is laid on.
func TestLayOfItself(t *testing.T) {
	l := text("abcdef")
	if got := glyphs(line.Lay(l, 1, 6, l.Cells)); got != "aabcde" {
		t.Errorf("P3.3: Lay of its own cells = %q", got)
	}
	if got := glyphs(line.Lay(l, 0, 5, l.Cells[1:])); got != "bcdeff" {
		t.Errorf("P3.3: Lay of its own cells = %q", got)
	}
	if glyphs(l) != "abcdef" {
		t.Errorf("P3.5: Lay of its own cells changes the line: %q", glyphs(l))
	}
}

func TestCut(t *testing.T) {
	for _, l := range short() {
		for _, from := range columns {
			for _, to := range columns {
				var want []api.Cell
				for i, c := range l.Cells {
					if inside(i, from, to) {
						want = append(want, c)
					}
				}
				if got := line.Cut(l, from, to); !slices.Equal(got, want) {
					t.Fatalf("P3.3: Cut(%v, %d, %d) = %v, not %v", l, from, to, got, want)
				}
			}
		}
	}
}

// What was cut can be laid back.
func TestCutAndLay(t *testing.T) {
	for _, l := range short() {
		for _, from := range columns {
			for _, to := range columns {
				gone := line.Erase(l, from, to)
				if got := line.Lay(gone, from, to, line.Cut(l, from, to)); !alike(got, l) {
					t.Fatalf("P3.3: Cut and Lay at %d, %d of %v: %v", from, to, l, got)
				}
			}
		}
	}
}

// No bound is told for a line that is handed in.
func TestLongLines(t *testing.T) {
	long := api.Line{Cells: make([]api.Cell, 1000), Size: 7}
	for i := range long.Cells {
		long.Cells[i].Glyph = rune(i)
	}
	for name, got := range map[string]api.Line{
		"Insert": line.Insert(long, 990, 1000, 3),
		"Delete": line.Delete(long, 990, 1000, 3),
		"Erase":  line.Erase(long, 990, 1000),
		"Copy":   line.Copy(long),
		"Sized":  line.Sized(long, api.Wide),
	} {
		if len(got.Cells) != 1000 || got.Cells[989].Glyph != 989 {
			t.Errorf("P3.4: %s of a long line: %d cells", name, len(got.Cells))
		}
	}
	if got := line.Cut(long, 0, 2000); !slices.Equal(got, long.Cells) {
		t.Errorf("P3.3: Cut of a long line: %d cells", len(got))
	}
	if got := line.Insert(long, 990, 1000, 3); got.Cells[990] != blank || got.Cells[993].Glyph != 990 || got.Cells[999].Glyph != 996 {
		t.Error("P3.2: Insert in a long line")
	}
}

// answers are all calls that answer a line, done with one and the same line.
func answers() map[string]func(l api.Line) api.Line {
	params := []int{1, 4, 99}
	row := []api.Cell{{Glyph: 'r'}, {Glyph: 's'}}
	calls := map[string]func(l api.Line) api.Line{
		"Insert":          func(l api.Line) api.Line { return line.Insert(l, 1, 4, 1) },
		"Insert of none":  func(l api.Line) api.Line { return line.Insert(l, 1, 4, 0) },
		"Insert nowhere":  func(l api.Line) api.Line { return line.Insert(l, 4, 1, 1) },
		"Delete":          func(l api.Line) api.Line { return line.Delete(l, 1, 4, 1) },
		"Delete of none":  func(l api.Line) api.Line { return line.Delete(l, 1, 4, -1) },
		"Delete nowhere":  func(l api.Line) api.Line { return line.Delete(l, 99, 100, 1) },
		"Fill":            func(l api.Line) api.Line { return line.Fill(l, 1, 4, row[0]) },
		"Erase":           func(l api.Line) api.Line { return line.Erase(l, 1, 4) },
		"Erase nowhere":   func(l api.Line) api.Line { return line.Erase(l, 4, 4) },
		"Clean":           func(l api.Line) api.Line { return line.Clean(l, 1, 4) },
		"Change":          func(l api.Line) api.Line { return line.Change(l, 1, 4, params...) },
		"Flip":            func(l api.Line) api.Line { return line.Flip(l, 1, 4, params...) },
		"Keep":            func(l api.Line) api.Line { return line.Keep(l, 1, 4, true) },
		"Lay":             func(l api.Line) api.Line { return line.Lay(l, 1, 4, row) },
		"Lay of none":     func(l api.Line) api.Line { return line.Lay(l, 1, 4, nil) },
		"Resize":          func(l api.Line) api.Line { return line.Resize(l, 4) },
		"Resize to more":  func(l api.Line) api.Line { return line.Resize(l, 8) },
		"Resize to alike": func(l api.Line) api.Line { return line.Resize(l, len(l.Cells)) },
		"Sized":           func(l api.Line) api.Line { return line.Sized(l, api.Wide) },
		"Copy":            line.Copy,
	}
	calls["Cut"] = func(l api.Line) api.Line { return api.Line{Cells: line.Cut(l, 0, 99)} }
	calls["Cut of a piece"] = func(l api.Line) api.Line { return api.Line{Cells: line.Cut(l, 1, 3)} }
	return calls
}

func TestMemory(t *testing.T) {
	for name, call := range answers() {
		for _, made := range short() {
			l := twin(made)
			first, second := call(l), call(l)
			was := twin(second)
			if !alike(l, made) || !roomStays(l) {
				t.Errorf("P3.5: %s changes the line that was handed in: %v", name, l)
			}
			scribble(first.Cells)
			if !alike(second, was) {
				t.Errorf("P3.5: answers of %s share memory", name)
			}
			if !alike(l, made) || !roomStays(l) {
				t.Errorf("P3.5: an answer of %s shares memory with the line that was handed in", name)
			}
			scribble(l.Cells)
			if !alike(second, was) {
				t.Errorf("P3.5: an answer of %s keeps the line that was handed in", name)
			}
		}
	}
}

func TestNewIsNewMemory(t *testing.T) {
	a, b := line.New(5), line.New(5)
	scribble(a.Cells)
	if glyphs(b) != "     " || glyphs(line.New(5)) != "     " {
		t.Error("P3.5: lines of New share memory")
	}
	if cell.Erased() != blank {
		t.Error("P3.5: New hands out what is erased itself")
	}
}

func TestRowsAndNumbersStay(t *testing.T) {
	row := twin(text("rst"))
	params := []int{1, 0, 4, 99, 77}
	l := text("abcdef")
	got := line.Lay(l, 1, 4, row.Cells)
	line.Change(l, 1, 4, params[:3]...)
	line.Flip(l, 1, 4, params[:3]...)
	if glyphs(row) != "rst" || !roomStays(row) || !slices.Equal(params, []int{1, 0, 4, 99, 77}) {
		t.Errorf("P3.5: a list that was handed in is changed: %v, %v", row, params)
	}
	scribble(got.Cells)
	if glyphs(row) != "rst" || !roomStays(row) {
		t.Errorf("P3.5: an answer of Lay shares memory with the row: %v", row)
	}
	got = line.Lay(l, 1, 4, row.Cells)
	scribble(row.Cells)
	if glyphs(got) != "arstef" {
		t.Errorf("P3.5: an answer of Lay keeps the row: %v", got)
	}
}

func TestSameAndWidthLeaveLines(t *testing.T) {
	for _, made := range short() {
		l, m := twin(made), twin(made)
		line.Same(l, m)
		line.Width(l)
		if !alike(l, made) || !alike(m, made) || !roomStays(l) || !roomStays(m) {
			t.Errorf("P3.5: Same or Width changes a line that was handed in: %v, %v", l, m)
		}
	}
}
