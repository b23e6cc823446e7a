package rect_test

import (
	"math"
	"math/rand"
	"slices"
	"strings"
	"testing"

	"phosphor/api"
	"phosphor/book"
	"phosphor/page"
	"phosphor/rect"
	"phosphor/rend"
)

var blank = api.Cell{Glyph: 32}

// sizes are those of the lines of every page here, over and over: no call changes one.
var sizes = []int{api.Wide, api.Single, api.Upper, api.Lower}

// cellAt is what stands at a place of a page here: cells are unlike each other, and some are kept.
func cellAt(number, row, col int) api.Cell {
	i := 100*number + 10*row + col
	return api.Cell{Glyph: rune('A' + i), Rend: api.Rend(i * 37), Kept: i%3 == 1}
}

// paint puts such cells on a page.
func paint(p *page.Page, number int) {
	for row := range p.Rows() {
		l := api.Line{Size: sizes[(number+row)%len(sizes)]}
		for col := range p.Cols() {
			l.Cells = append(l.Cells, cellAt(number, row, col))
		}
		p.SetLine(row, l)
	}
}

func painted(rows, cols int) *page.Page {
	p := page.New(rows, cols)
	paint(p, 0)
	return p
}

func paintedBook(pages, rows, cols int) *book.Book {
	b := book.New(pages, rows, cols)
	for i := range pages {
		paint(b.Page(i), i)
	}
	paint(b.Status(), 7)
	return b
}

// places are those of an area that lie on a page, row by row.
func places(rows, cols int, area api.Box) [][]api.Pos {
	var list [][]api.Pos
	for row := range rows {
		var line []api.Pos
		for col := range cols {
			if row >= area.Top && row < area.Bottom && col >= area.Left && col < area.Right {
				line = append(line, api.Pos{Row: row, Col: col})
			}
		}
		if line != nil {
			list = append(list, line)
		}
	}
	return list
}

// number is the one at a place of a list; 0, where there is none.
func number(list []int, i int) int {
	if i < len(list) {
		return list[i]
	}
	return 0
}

// chosen are the places of an area that the four numbers from a place of a list on choose, by the document's words: as a rectangle, or as a stream. None: there is no such thing.
func chosen(rows, cols int, area api.Box, list []int, i int, stream bool) map[api.Pos]bool {
	top, left, bottom, right := number(list, i), number(list, i+1), number(list, i+2), number(list, i+3)
	all := places(rows, cols, area)
	if min(top, left, bottom, right) < 0 || len(all) == 0 {
		return nil
	}
	top, left = max(top, 1), max(left, 1)
	if bottom == 0 || bottom > len(all) {
		bottom = len(all)
	}
	if right == 0 || right > len(all[0]) {
		right = len(all[0])
	}
	if top > bottom || left > right && !(stream && top < bottom) {
		return nil
	}
	has := map[api.Pos]bool{}
	for r, line := range all {
		for c, at := range line {
			row, col := r+1, c+1
			in := row >= top && row <= bottom && col >= left && col <= right
			if stream {
				in = (row > top || row == top && col >= left) && (row < bottom || row == bottom && col <= right)
			}
			if in {
				has[at] = true
			}
		}
	}
	return has
}

// after is a page of which some cells are others.
func after(p *page.Page, has map[api.Pos]bool, do func(c api.Cell) api.Cell) *page.Page {
	q := p.Clone()
	for at := range has {
		q.Put(at, do(q.At(at)))
	}
	return q
}

// shown tells a page's glyphs and its lines' sizes, row by row.
func shown(p *page.Page) string {
	s := ""
	for row := range p.Rows() {
		for _, c := range p.Line(row).Cells {
			s += string(c.Glyph)
		}
		s += "/" + string(rune('0'+p.Line(row).Size)) + " "
	}
	return strings.TrimSuffix(s, " ")
}

// areas are some of pages of 3 rows and 4 columns: all, parts, beyond it, far, and without a place.
var areas = []api.Box{
	{Bottom: 3, Right: 4},
	{Top: 1, Left: 1, Bottom: 3, Right: 4},
	{Top: 0, Left: 1, Bottom: 2, Right: 3},
	{Top: -2, Left: -3, Bottom: 2, Right: 2},
	{Top: 1, Left: 2, Bottom: 99, Right: 99},
	{Top: 2, Left: 0, Bottom: 3, Right: 4},
	{Top: 0, Left: 3, Bottom: 3, Right: 4},
	{Top: math.MinInt, Left: math.MinInt, Bottom: math.MaxInt, Right: math.MaxInt},
	{},
	{Top: 2, Left: 2, Bottom: 1, Right: 1},
	{Top: 3, Left: 0, Bottom: 5, Right: 4},
	{Top: -5, Left: 0, Bottom: 0, Right: 4},
	{Top: math.MaxInt, Left: math.MaxInt, Bottom: math.MinInt, Right: math.MinInt},
}

var numbers = []int{math.MinInt, -1, 0, 1, 2, 3, 4, 5, 1<<32 + 1, math.MaxInt}

// fours are all lists of four of these numbers.
func fours(do func(list []int)) {
	for _, a := range numbers {
		for _, b := range numbers {
			for _, c := range numbers {
				for _, d := range numbers {
					do([]int{a, b, c, d})
				}
			}
		}
	}
}

func check(t *testing.T, promise string, p, want *page.Page, ok, wantOk bool, doing string, args ...any) {
	t.Helper()
	if ok != wantOk {
		t.Fatalf("%s: %s %v: %v, not %v", promise, doing, args, ok, wantOk)
	}
	if !p.Same(want) {
		t.Fatalf("%s: %s %v: the page is %s, not %s", promise, doing, args, shown(p), shown(want))
	}
}

func TestFill(t *testing.T) {
	pen := api.Cell{Glyph: 0x2500, Rend: 0xE5, Kept: true}
	for _, area := range areas {
		fours(func(four []int) {
			p := painted(3, 4)
			list := append([]int{-7}, four...)
			has := chosen(3, 4, area, list, 1, false)
			want := after(p, has, func(api.Cell) api.Cell { return pen })
			ok := rect.Fill(p, area, list, pen)
			check(t, "P16.1", p, want, ok, has != nil, "Fill", area, list)
		})
	}
}

func TestErase(t *testing.T) {
	for _, area := range areas {
		fours(func(list []int) {
			has := chosen(3, 4, area, list, 0, false)
			p := painted(3, 4)
			want := after(p, has, func(api.Cell) api.Cell { return blank })
			ok := rect.Erase(p, area, list, false)
			check(t, "P16.1", p, want, ok, has != nil, "Erase", area, list)
			p = painted(3, 4)
			want = after(p, has, cleaned)
			ok = rect.Erase(p, area, list, true)
			check(t, "P16.1", p, want, ok, has != nil, "Erase, selective,", area, list)
		})
	}
}

func cleaned(c api.Cell) api.Cell {
	if !c.Kept {
		c.Glyph = 32
	}
	return c
}

// tails are numbers that change renditions.
var tails = [][]int{nil, {0}, {1}, {1, 4, 7}, {22, 5}, {0, 1}, {8, 28}, {-1, 99, 4}, {math.MaxInt, math.MinInt}, {1, 1, 1}}

func TestChange(t *testing.T) {
	turn := 0
	for _, area := range areas {
		fours(func(four []int) {
			for i := range 4 {
				stream, flip := i&1 != 0, i&2 != 0
				tail := tails[turn%len(tails)]
				turn++
				list := append(slices.Clone(four), tail...)
				has := chosen(3, 4, area, list, 0, stream)
				p := painted(3, 4)
				want := after(p, has, func(c api.Cell) api.Cell {
					if flip {
						c.Rend = rend.Flip(c.Rend, tail...)
					} else {
						c.Rend = rend.Apply(c.Rend, tail...)
					}
					return c
				})
				ok := rect.Change(p, area, list, stream, flip)
				check(t, "P16.2", p, want, ok, has != nil, "Change", area, list, stream, flip)
			}
		})
	}
}

// Lists of any length: what isn't there counts as 0, and what lies behind a list's end isn't of it.
func TestShortLists(t *testing.T) {
	room := []int{2, 1, 2, 3, 2, 1, 4, 5, 7}
	for _, area := range areas {
		for n := range len(room) + 1 {
			list := room[:n]
			p := painted(3, 4)
			has := chosen(3, 4, area, list, 1, false)
			want := after(p, has, func(api.Cell) api.Cell { return blank })
			check(t, "P16.1", p, want, rect.Fill(p, area, list, blank), has != nil, "Fill", area, list)
			p = painted(3, 4)
			has = chosen(3, 4, area, list, 0, false)
			want = after(p, has, cleaned)
			check(t, "P16.1", p, want, rect.Erase(p, area, list, true), has != nil, "Erase", area, list)
			for _, stream := range []bool{false, true} {
				p = painted(3, 4)
				has = chosen(3, 4, area, list, 0, stream)
				want = after(p, has, func(c api.Cell) api.Cell {
					c.Rend = rend.Apply(c.Rend, list[min(n, 4):]...)
					return c
				})
				check(t, "P16.2", p, want, rect.Change(p, area, list, stream, false), has != nil, "Change", area, list, stream)
			}
		}
		p := painted(3, 4)
		has := chosen(3, 4, area, nil, 0, false)
		check(t, "P16.1", p, after(p, has, func(api.Cell) api.Cell { return blank }), rect.Erase(p, area, nil, false), has != nil, "Erase", area, nil)
	}
	if !slices.Equal(room, []int{2, 1, 2, 3, 2, 1, 4, 5, 7}) {
		t.Errorf("P16.1, P16.2: a list that was handed in is changed: %v", room)
	}
}

func TestChangeExamples(t *testing.T) {
	all := api.Box{Bottom: 3, Right: 4}
	for _, x := range []struct {
		area   api.Box
		list   []int
		stream bool
		ok     bool
		bold   string // which cells are bold, row by row
	}{
		{all, []int{1, 3, 2, 1, 1}, true, true, "..##/#.../...."},
		{all, []int{1, 3, 2, 1, 1}, false, false, "..../..../...."},
		{all, []int{1, 3, 3, 1, 1}, true, true, "..##/####/#..."},
		{all, []int{1, 2, 2, 3, 1}, false, true, ".##./.##./...."},
		{all, []int{1, 2, 2, 3, 1}, true, true, ".###/###./...."},
		{all, []int{2, 3, 2, 2, 1}, true, false, "..../..../...."},
		{all, []int{2, 2, 2, 3, 1}, true, true, "..../.##./...."},
		{all, []int{2, 4, 1, 1, 1}, true, false, "..../..../...."},
		{all, []int{1, 5, 2, 1, 1}, true, true, "..../#.../...."},
		{all, []int{3, 5, 9, 9, 1}, true, false, "..../..../...."},
		{all, []int{2, 2, 0, 0, 1}, true, true, "..../.###/####"},
		{all, []int{2, 2, 9, 9, 1}, true, true, "..../.###/####"},
		{all, []int{4, 1, 9, 9, 1}, true, false, "..../..../...."},
		{all, []int{1, 1, 2, -1, 1}, true, false, "..../..../...."},
		{all, []int{1, -1, 2, 1, 1}, true, false, "..../..../...."},
		{all, []int{-1, 1, 2, 1, 1}, true, false, "..../..../...."},
		{all, []int{1, 1, -1, 1, 1}, true, false, "..../..../...."},
		{api.Box{Bottom: 3, Left: 1, Right: 3}, []int{1, 2, 3, 1, 1}, true, true, "..#./.##./.#.."},
		{api.Box{Top: 1, Bottom: 3, Left: 1, Right: 9}, []int{1, 3, 2, 1, 1}, true, true, "..../...#/.#.."},
	} {
		p := page.New(3, 4)
		ok := rect.Change(p, x.area, x.list, x.stream, false)
		bold := ""
		for row := range 3 {
			for col := range 4 {
				bold += string(".#"[p.At(api.Pos{Row: row, Col: col}).Rend&api.Bold])
			}
			bold += "/"
		}
		if ok != x.ok || bold != x.bold+"/" {
			t.Errorf("P16.2: Change(%v, %v, stream %v): %v, %s, not %v, %s", x.area, x.list, x.stream, ok, bold, x.ok, x.bold)
		}
	}
}

// pageOf is the page that a number tells, by the document's words; -1: none.
func pageOf(count, n int) int {
	switch {
	case n < 0:
		return -1
	case n == 0:
		return 0
	case n > count:
		return count - 1
	}
	return n - 1
}

// copied is a book behind a copy, cell by cell.
func copied(b *book.Book, area api.Box, list []int) (*book.Book, bool) {
	rows, cols := b.Size()
	after := b.Clone()
	from, to := pageOf(b.Count(), number(list, 4)), pageOf(b.Count(), number(list, 7))
	has := chosen(rows, cols, area, list, 0, false)
	if has == nil || from < 0 || to < 0 {
		return after, false
	}
	all := places(rows, cols, area)
	first := api.Pos{Row: rows, Col: cols}
	for at := range has {
		first = api.Pos{Row: min(first.Row, at.Row), Col: min(first.Col, at.Col)}
	}
	row, col := min(max(number(list, 5), 1), len(all)), min(max(number(list, 6), 1), len(all[0]))
	there := all[row-1][col-1]
	for _, line := range all {
		for _, at := range line {
			source := api.Pos{Row: at.Row - there.Row + first.Row, Col: at.Col - there.Col + first.Col}
			if has[source] {
				after.Page(to).Put(at, b.Page(from).At(source))
			}
		}
	}
	return after, true
}

func checkCopy(t *testing.T, b *book.Book, area api.Box, list []int) {
	t.Helper()
	want, wantOk := copied(b, area, list)
	got := b.Clone()
	ok := rect.Copy(got, area, list)
	if ok != wantOk {
		t.Fatalf("P16.3: Copy(%v, %v): %v, not %v", area, list, ok, wantOk)
	}
	if got.Same(want) {
		return
	}
	for i := range b.Count() {
		t.Errorf("P16.3: Copy(%v, %v): page %d is %s, not %s", area, list, i, shown(got.Page(i)), shown(want.Page(i)))
	}
	t.FailNow()
}

func TestCopyOfAllRectangles(t *testing.T) {
	b := paintedBook(2, 3, 4)
	turn := 0
	for _, area := range areas {
		fours(func(four []int) {
			turn++
			rest := []int{1 + turn%2, 1 + turn%4, 1 + turn%5, 1 + turn/2%2}
			checkCopy(t, b, area, append(slices.Clone(four), rest...))
		})
	}
}

func TestCopyToAllPlaces(t *testing.T) {
	b := paintedBook(2, 3, 4)
	for _, area := range areas {
		for _, four := range [][]int{{}, {1, 1, 2, 2}, {2, 2, 3, 3}, {1, 2, 1, 3}, {0, 0, 2, 3}} {
			for _, row := range numbers {
				for _, col := range numbers {
					for _, to := range []int{1, 2} {
						list := append(make([]int, 0, 8), four...)
						list = append(append(list, make([]int, 4-len(four))...), 1, row, col, to)
						checkCopy(t, b, area, list)
					}
				}
			}
		}
	}
}

func TestPagesOfCopy(t *testing.T) {
	for _, count := range []int{1, 2, 3, api.MaxPages} {
		b := paintedBook(count, 3, 4)
		for _, from := range append([]int{15, 16, 17}, numbers...) {
			for _, to := range append([]int{15, 16, 17}, numbers...) {
				checkCopy(t, b, areas[1], []int{1, 1, 1, 2, from, 2, 2, to})
				checkCopy(t, b, areas[8], []int{1, 1, 1, 2, from, 2, 2, to})
			}
		}
	}
}

func TestShortListsOfCopy(t *testing.T) {
	b := paintedBook(3, 3, 4)
	room := []int{2, 2, 3, 3, 2, 1, 4, 3, 99, -99}
	for _, area := range areas {
		for n := range len(room) + 1 {
			checkCopy(t, b, area, room[:n])
		}
		checkCopy(t, b, area, nil)
	}
	if !slices.Equal(room, []int{2, 2, 3, 3, 2, 1, 4, 3, 99, -99}) {
		t.Errorf("P16.3: a list that was handed in is changed: %v", room)
	}
}

// One looks at the status line, or at another page: that makes no difference to a copy or a sum.
func TestWhereOneLooks(t *testing.T) {
	b := paintedBook(3, 3, 4)
	want, wantOk := rect.Sum(b, areas[0], []int{2, 1, 1, 2, 2})
	b.Turn(2)
	b.Look(true)
	checkCopy(t, b, areas[0], []int{1, 1, 2, 2, 1, 2, 2, 2})
	if got, ok := rect.Sum(b, areas[0], []int{2, 1, 1, 2, 2}); got != want || ok != wantOk {
		t.Errorf("P16.4: Sum of a book of which one looks at the status line: %d, %v, not %d, %v", got, ok, want, wantOk)
	}
}

func TestCopyExamples(t *testing.T) {
	area := api.Box{Bottom: 3, Right: 4}
	b := paintedBook(2, 3, 4)
	if ok := rect.Copy(b, area, []int{1, 1, 1, 2, 1, 3, 4}); !ok || shown(b.Page(0)) != "ABCD/1 KLMN/0 UVWA/2" {
		t.Errorf("P16.3: an example: %v, %s", ok, shown(b.Page(0)))
	}
	// It is copied as it was, also to where it stands in part.
	b = paintedBook(2, 3, 4)
	if ok := rect.Copy(b, area, []int{1, 1, 2, 3, 1, 2, 2, 1}); !ok || shown(b.Page(0)) != "ABCD/1 KABC/0 UKLM/2" {
		t.Errorf("P16.3: Copy on itself: %v, %s", ok, shown(b.Page(0)))
	}
}

// weights are what the document says that renditions count for.
func weight(c api.Cell) int {
	sum := int(c.Glyph) & 0xFFFF
	for bit, w := range map[api.Rend]int{api.Bold: 128, api.Blink: 64, api.Reverse: 32, api.Under: 16, api.Hidden: 8} {
		if c.Rend&bit != 0 {
			sum += w
		}
	}
	if c.Kept {
		sum += 4
	}
	return sum
}

// summed is the sum of a rectangle, by the document's words.
func summed(b *book.Book, area api.Box, list []int) (int, bool) {
	rows, cols := b.Size()
	has := chosen(rows, cols, area, list, 1, false)
	if has == nil || number(list, 0) < 0 {
		return 0, false
	}
	sum := 0
	for i := range b.Count() {
		if n := number(list, 0); n != 0 && i != pageOf(b.Count(), n) {
			continue
		}
		for at := range has {
			sum += weight(b.Page(i).At(at))
		}
	}
	return (65536 - sum%65536) % 65536, true
}

func checkSum(t *testing.T, b *book.Book, area api.Box, list []int) {
	t.Helper()
	before := b.Clone()
	want, wantOk := summed(b, area, list)
	if got, ok := rect.Sum(b, area, list); got != want || ok != wantOk {
		t.Fatalf("P16.4: Sum(%v, %v) = %d, %v, not %d, %v", area, list, got, ok, want, wantOk)
	}
	if !b.Same(before) {
		t.Fatalf("P16.5: Sum(%v, %v) changes the book", area, list)
	}
}

func TestSum(t *testing.T) {
	b := paintedBook(3, 3, 4)
	turn := 0
	for _, area := range areas {
		fours(func(four []int) {
			turn++
			checkSum(t, b, area, append([]int{numbers[turn%len(numbers)]}, four...))
		})
		for _, n := range numbers {
			for _, four := range [][]int{nil, {1}, {0, 2}, {1, 2, 2}, {2, 2, 2, 2}, {1, 1, 3, 4, -5}, {2, 1, 1, 1}} {
				checkSum(t, b, area, append([]int{n}, four...))
			}
		}
		checkSum(t, b, area, nil)
	}
	room := []int{2, 1, 2, 3, 3, -1}
	for n := range len(room) + 1 {
		checkSum(t, b, areas[0], room[:n])
	}
}

func TestSumExamples(t *testing.T) {
	b := book.New(2, 3, 4)
	all := api.Box{Bottom: 3, Right: 4}
	for i := range 3 {
		b.Page(1).Put(api.Pos{Col: i}, api.Cell{Glyph: 'A'})
	}
	for _, x := range []struct {
		list []int
		want int
		ok   bool
	}{
		{[]int{2, 1, 1, 1, 3}, 0xFF3D, true},
		{[]int{1, 1, 1, 1, 3}, 65536 - 3*32, true},
		{[]int{0, 1, 1, 1, 3}, 0xFF3D - 3*32, true},
		{nil, 65536 - 24*32 - 3*33, true},
		{[]int{9, 1, 1, 1, 3}, 0xFF3D, true},
		{[]int{-1, 1, 1, 1, 3}, 0, false},
		{[]int{2, 3, 1, 1, 3}, 0, false},
	} {
		if got, ok := rect.Sum(b, all, x.list); got != x.want || ok != x.ok {
			t.Errorf("P16.4: Sum(%v) = %d, %v, not %d, %v", x.list, got, ok, x.want, x.ok)
		}
	}
	// What is summed to 65536 needs nothing to make 0.
	b.Page(0).Put(api.Pos{}, api.Cell{})
	if got, ok := rect.Sum(b, all, []int{1, 1, 1, 1, 1}); got != 0 || !ok {
		t.Errorf("P16.4: Sum of nothing that weighs: %d, %v", got, ok)
	}
}

// Equal rectangles have equal sums, wherever they stand, and however they are told.
func TestEqualRectanglesHaveEqualSums(t *testing.T) {
	random := rand.New(rand.NewSource(16))
	area := api.Box{Bottom: 9, Right: 11}
	for range 500 {
		b := book.New(3, 9, 11)
		for i := range 3 {
			for range 60 {
				at := api.Pos{Row: random.Intn(9), Col: random.Intn(11)}
				b.Page(i).Put(at, api.Cell{Glyph: rune(random.Intn(0x110000)), Rend: api.Rend(random.Intn(256)), Kept: random.Intn(2) == 0})
			}
		}
		height, width := 1+random.Intn(4), 1+random.Intn(5)
		top, left := 1+random.Intn(9-height), 1+random.Intn(11-width)
		row, col := 1+random.Intn(9-height), 1+random.Intn(11-width)
		from, to := 1+random.Intn(3), 1+random.Intn(3)
		want, _ := rect.Sum(b, area, []int{from, top, left, top + height - 1, left + width - 1})
		if !rect.Copy(b, area, []int{top, left, top + height - 1, left + width - 1, from, row, col, to}) {
			t.Fatalf("P16.3: Copy is false")
		}
		inner := api.Box{Top: row - 1, Left: col - 1, Bottom: row - 1 + height, Right: col - 1 + width}
		if got, ok := rect.Sum(b, area, []int{to, row, col, row + height - 1, col + width - 1}); got != want || !ok {
			t.Errorf("P16.4: unlike sums of equal rectangles: %d, %d", want, got)
		}
		if got, ok := rect.Sum(b, inner, []int{to}); got != want || !ok {
			t.Errorf("P16.4: unlike sums of a rectangle that is told by its area: %d, %d", want, got)
		}
	}
}

// outside tells whether no cell outside of an area is another one, and no line's size.
func outside(before, after *page.Page, area api.Box) bool {
	for row := range before.Rows() {
		if before.Line(row).Size != after.Line(row).Size {
			return false
		}
		for col := range before.Cols() {
			in := row >= area.Top && row < area.Bottom && col >= area.Left && col < area.Right
			if at := (api.Pos{Row: row, Col: col}); !in && before.At(at) != after.At(at) {
				return false
			}
		}
	}
	return true
}

func TestNothingOutsideTheArea(t *testing.T) {
	random := rand.New(rand.NewSource(17))
	for range 3000 {
		b := paintedBook(2, 5, 6)
		before := b.Clone()
		p := b.Page(0)
		area := api.Box{Top: random.Intn(6) - 1, Left: random.Intn(7) - 1, Bottom: random.Intn(7), Right: random.Intn(8)}
		var list []int
		for range random.Intn(10) {
			list = append(list, random.Intn(9)-1)
		}
		for i, ok := range []bool{
			rect.Fill(p, area, list, api.Cell{Glyph: 1}),
			rect.Change(p, area, list, i2b(random.Intn(2)), i2b(random.Intn(2))),
			rect.Copy(b, area, list),
			rect.Erase(p, area, list, i2b(random.Intn(2))),
		} {
			if ok && len(places(5, 6, area)) == 0 {
				t.Fatalf("P16.5: call %d in an area of no place, %v, answers true", i, area)
			}
		}
		for i := range 2 {
			if !outside(before.Page(i), b.Page(i), area) {
				t.Fatalf("P16.5: outside of %v something is changed by %v: %s", area, list, shown(b.Page(i)))
			}
		}
		if !b.Status().Same(before.Status()) {
			t.Fatalf("P16.5: the status line is changed by %v", list)
		}
	}
}

func i2b(i int) bool { return i == 1 }

// The greatest page: a stream of all of it but its first and last cells.
func TestGreatestPage(t *testing.T) {
	p := page.New(api.MaxRows, api.MaxCols)
	area := api.Box{Bottom: math.MaxInt, Right: math.MaxInt}
	if !rect.Change(p, area, []int{1, 2, api.MaxRows, api.MaxCols - 1, 7}, true, true) {
		t.Fatalf("P16.2: Change of the greatest page is false")
	}
	for _, x := range []struct {
		row, col int
		want     api.Rend
	}{{0, 0, 0}, {0, 1, api.Reverse}, {1, 0, api.Reverse}, {498, 499, api.Reverse}, {499, 498, api.Reverse}, {499, 499, 0}} {
		if got := p.At(api.Pos{Row: x.row, Col: x.col}).Rend; got != x.want {
			t.Errorf("P16.2: the rendition at %d, %d is %d", x.row, x.col, got)
		}
	}
	b := book.New(api.MaxPages, api.MaxRows, api.MaxCols)
	if got, ok := rect.Sum(b, area, nil); got != (65536-(16*500*500*32)%65536)%65536 || !ok {
		t.Errorf("P16.4: Sum of the greatest book: %d, %v", got, ok)
	}
}

// A page that isn't there, as a book answers it, one of no rows, and a book of no pages: there is no rectangle.
func TestNoPage(t *testing.T) {
	area := api.Box{Bottom: 3, Right: 4}
	for _, p := range []*page.Page{book.New(1, 2, 2).Page(5), {}} {
		if rect.Fill(p, area, nil, blank) || rect.Erase(p, area, nil, false) || rect.Erase(p, area, nil, true) || rect.Change(p, area, nil, false, false) || rect.Change(p, area, nil, true, true) {
			t.Errorf("P16.1, P16.2: a page of no rows has a rectangle")
		}
	}
	var b book.Book
	if rect.Copy(&b, area, nil) {
		t.Errorf("P16.3: a book of no pages has a rectangle")
	}
	for _, list := range [][]int{nil, {1}, {-1}, {2, 1, 1, 1, 1}} {
		if sum, ok := rect.Sum(&b, area, list); sum != 0 || ok {
			t.Errorf("P16.4: a book of no pages has a sum: %d", sum)
		}
	}
}
