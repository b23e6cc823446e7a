package book_test

import (
	"math"
	"math/rand"
	"testing"

	"phosphor/api"
	"phosphor/book"
	"phosphor/page"
)

// far are numbers that would overflow, if they were added to anything.
var far = []int{math.MinInt, math.MinInt + 1, math.MinInt32, -65536, 65536, math.MaxInt32, 1 << 32, 1<<32 + 1, math.MaxInt - 1, math.MaxInt}

// numbers are all about a few pages, and far ones.
var numbers = append([]int{-4, -3, -2, -1, 0, 1, 2, 3, 4, 5}, far...)

// mark makes a page unlike new ones and such as have other marks, in its cells and in the sizes of its lines.
func mark(p *page.Page, n int) {
	for row := range p.Rows() {
		for col := range p.Cols() {
			p.Put(api.Pos{Row: row, Col: col}, api.Cell{Glyph: rune(n*1000 + row*p.Cols() + col), Rend: api.Rend(n), Kept: n%2 == 0})
		}
		l := p.Line(row)
		l.Size = 1 + (n+row)%3
		p.SetLine(row, l)
	}
}

// marked is a page of its own with a mark.
func marked(rows, cols, n int) *page.Page {
	p := page.New(rows, cols)
	mark(p, n)
	return p
}

// made is a book whose pages are marked with their numbers from 1 on, and whose status line with 100.
func made(pages, rows, cols int) *book.Book {
	b := book.New(pages, rows, cols)
	for n := range pages {
		mark(b.Page(n), n+1)
	}
	mark(b.Status(), 100)
	return b
}

// want are the pages that a book should have, the status line last.
func want(pages, rows, cols int) []*page.Page {
	var list []*page.Page
	for n := range pages {
		list = append(list, marked(rows, cols, n+1))
	}
	return append(list, marked(1, cols, 100))
}

// check holds all pages and the status line of a book against those that it should have.
func check(t *testing.T, promise string, b *book.Book, pages []*page.Page, doing string) {
	t.Helper()
	last := len(pages) - 1
	if b.Count() != last {
		t.Fatalf("%s: %s: %d pages, not %d", promise, doing, b.Count(), last)
	}
	for n, p := range pages[:last] {
		if !b.Page(n).Same(p) {
			t.Errorf("%s: %s: page %d isn't right", promise, doing, n)
		}
	}
	if !b.Status().Same(pages[last]) {
		t.Errorf("%s: %s: the status line isn't right", promise, doing)
	}
	if rows, cols := b.Size(); rows != pages[0].Rows() || cols != pages[0].Cols() {
		t.Errorf("%s: %s: Size = %d, %d", promise, doing, rows, cols)
	}
}

// checkLook holds where one looks against where one should.
func checkLook(t *testing.T, b *book.Book, now int, status bool, doing string) {
	t.Helper()
	if b.Now() != now || b.OnStatus() != status {
		t.Errorf("P8.1: %s: one looks at %d, %v, not at %d, %v", doing, b.Now(), b.OnStatus(), now, status)
	}
	sheet := b.Page(now)
	if status {
		sheet = b.Status()
	}
	if b.Sheet() != sheet {
		t.Errorf("P8.1: %s: Sheet isn't what one looks at", doing)
	}
}

func TestNew(t *testing.T) {
	for _, x := range []struct{ pages, rows, cols, wantPages, wantRows, wantCols int }{
		{1, 1, 1, 1, 1, 1}, {3, 2, 2, 3, 2, 2}, {6, 24, 80, 6, 24, 80}, {16, 2, 3, 16, 2, 3}, {15, 2, 3, 15, 2, 3},
		{0, 0, 0, 1, 1, 1}, {-1, -1, -1, 1, 1, 1}, {17, 501, 502, 16, 500, 500}, {2, 500, 499, 2, 500, 499}, {2, 0, 7, 2, 1, 7}, {2, 7, 0, 2, 7, 1},
		{math.MinInt, math.MaxInt, math.MinInt, 1, 500, 1}, {math.MaxInt, math.MinInt, math.MaxInt, 16, 1, 500}, {1 << 32, 2, 3, 16, 2, 3},
	} {
		b := book.New(x.pages, x.rows, x.cols)
		var pages []*page.Page
		for range x.wantPages {
			pages = append(pages, page.New(x.wantRows, x.wantCols))
		}
		check(t, "P8.1", b, append(pages, page.New(1, x.wantCols)), "New")
		checkLook(t, b, 0, false, "New")
	}
}

func TestExample(t *testing.T) {
	b := book.New(3, 2, 2)
	b.Step(-1)
	checkLook(t, b, 0, false, "Step(-1)")
	b.Step(9)
	checkLook(t, b, 2, false, "Step(9)")
	b.Look(true)
	if n := b.Sheet().Rows(); n != 1 {
		t.Errorf("P8.1: Look(true): Sheet has %d rows", n)
	}
	if b.Copy(0, api.Box{Bottom: 2, Right: 2}, 5, api.Pos{}) {
		t.Errorf("P8.2: Copy to a page that isn't there: true")
	}
}

func TestTurnAndStep(t *testing.T) {
	for _, count := range []int{1, 3, 16} {
		for now := range count {
			for _, n := range numbers {
				b := book.New(count, 2, 2)
				b.Turn(now)
				checkLook(t, b, now, false, "Turn")
				b.Turn(n)
				checkLook(t, b, min(max(n, 0), count-1), false, "Turn, twice")
				b.Turn(now)
				b.Step(n)
				// Far numbers are far beyond all pages, wherever one stands.
				checkLook(t, b, min(max(now+min(max(n, -99), 99), 0), count-1), false, "Step")
			}
		}
	}
}

func TestLook(t *testing.T) {
	b := made(3, 2, 4)
	for _, x := range []struct {
		status bool
		turn   int
	}{{true, 1}, {true, 2}, {false, 2}, {false, 0}, {true, 0}, {false, 1}} {
		b.Look(x.status)
		b.Turn(x.turn)
		checkLook(t, b, x.turn, x.status, "Look and Turn")
		b.Step(0)
		checkLook(t, b, x.turn, x.status, "Step(0)")
	}
	b.Look(true)
	b.Step(1)
	checkLook(t, b, 2, true, "Step on the status line")
	check(t, "P8.1", b, want(3, 2, 4), "Look, Turn and Step")
}

func TestPagesAreThemselves(t *testing.T) {
	b := book.New(3, 2, 2)
	for _, n := range numbers {
		p := b.Page(n)
		if (p != nil) != (n >= 0 && n < 3) {
			t.Errorf("P8.1: Page(%d) = %v", n, p)
		}
		if p != b.Page(n) {
			t.Errorf("P8.1: Page(%d) is another one each time", n)
		}
	}
	for n := range 3 {
		mark(b.Page(n), n+1)
	}
	mark(b.Status(), 100)
	check(t, "P8.1", b, want(3, 2, 2), "what is done with the pages that are answered")
	b.Turn(1)
	mark(b.Sheet(), 7)
	pages := want(3, 2, 2)
	mark(pages[1], 7)
	check(t, "P8.1", b, pages, "what is done with the Sheet")
	b.Look(true)
	mark(b.Sheet(), 8)
	mark(pages[3], 8)
	check(t, "P8.1", b, pages, "what is done with the Sheet, the status line")
}

func TestCopy(t *testing.T) {
	places := []api.Pos{{}, {Row: 1, Col: 1}, {Row: -1, Col: -1}, {Row: 9, Col: 9}, {Row: math.MaxInt, Col: math.MinInt}}
	boxes := []api.Box{{}, {Bottom: 1, Right: 2}, {Top: 1, Left: 1, Bottom: 3, Right: 3}, {Top: -9, Left: -9, Bottom: 99, Right: 99}, {Top: 2, Bottom: 1, Right: 9}}
	for from := range 3 {
		for to := range 3 {
			for _, r := range boxes {
				for _, at := range places {
					b := made(3, 3, 3)
					b.Turn(2)
					b.Look(true)
					pages := want(3, 3, 3)
					pages[to].Copy(pages[from], r, at)
					if !b.Copy(from, r, to, at) {
						t.Errorf("P8.2: Copy(%d, %v, %d, %v) = false", from, r, to, at)
					}
					check(t, "P8.2", b, pages, "Copy")
					checkLook(t, b, 2, true, "Copy")
				}
			}
		}
	}
}

func TestCopyWhereNoPageIs(t *testing.T) {
	all := api.Box{Bottom: 3, Right: 3}
	for _, n := range append([]int{-3, -2, -1, 3, 4, 5, 16}, far...) {
		b := made(3, 3, 3)
		for _, x := range [][2]int{{n, 1}, {1, n}, {n, n}} {
			if b.Copy(x[0], all, x[1], api.Pos{}) {
				t.Errorf("P8.2: Copy from %d to %d = true", x[0], x[1])
			}
			check(t, "P8.2", b, want(3, 3, 3), "Copy where no page is")
		}
	}
}

func TestResize(t *testing.T) {
	for _, rows := range append([]int{-1, 0, 1, 2, 3, 4, 499, 500, 501}, math.MinInt, math.MaxInt) {
		for _, cols := range append([]int{-1, 0, 1, 2, 3, 4}, math.MinInt, 1<<32) {
			b := made(2, 3, 2)
			b.Step(1)
			b.Look(true)
			held := []*page.Page{b.Page(0), b.Page(1), b.Status()}
			b.Resize(rows, cols)
			pages := want(2, 3, 2)
			pages[0].Resize(rows, cols)
			pages[1].Resize(rows, cols)
			pages[2].Resize(1, cols)
			check(t, "P8.2", b, pages, "Resize")
			checkLook(t, b, 1, true, "Resize")
			if held[0] != b.Page(0) || held[1] != b.Page(1) || held[2] != b.Status() {
				t.Errorf("P8.2: behind Resize a book has other pages")
			}
		}
	}
}

func TestErase(t *testing.T) {
	for _, status := range []bool{false, true} {
		b := made(3, 2, 4)
		b.Turn(1)
		b.Look(status)
		held := []*page.Page{b.Page(0), b.Page(1), b.Page(2), b.Status()}
		b.Erase()
		check(t, "P8.2", b, []*page.Page{page.New(2, 4), page.New(2, 4), page.New(2, 4), page.New(1, 4)}, "Erase")
		checkLook(t, b, 1, status, "Erase")
		if held[0] != b.Page(0) || held[1] != b.Page(1) || held[2] != b.Page(2) || held[3] != b.Status() {
			t.Errorf("P8.2: behind Erase a book has other pages")
		}
	}
}

func TestClone(t *testing.T) {
	for _, status := range []bool{false, true} {
		b := made(3, 2, 4)
		b.Turn(2)
		b.Look(status)
		c := b.Clone()
		if c == b || !b.Same(c) || !c.Same(b) {
			t.Errorf("P8.3: Clone isn't another one like it")
		}
		check(t, "P8.3", c, want(3, 2, 4), "Clone")
		checkLook(t, c, 2, status, "Clone")
		scramble(c)
		check(t, "P8.3", b, want(3, 2, 4), "a book whose Clone is changed")
		checkLook(t, b, 2, status, "a book whose Clone is changed")
		c = b.Clone()
		scramble(b)
		check(t, "P8.3", c, want(3, 2, 4), "a Clone of a book that is changed")
		checkLook(t, c, 2, status, "a Clone of a book that is changed")
	}
}

// scramble changes all that a book has.
func scramble(b *book.Book) {
	for n := range b.Count() {
		mark(b.Page(n), 55+n)
	}
	mark(b.Status(), 77)
	b.Turn(0)
	b.Look(!b.OnStatus())
	b.Resize(5, 5)
}

func TestSame(t *testing.T) {
	b := made(3, 2, 4)
	if !b.Same(b) || !b.Same(made(3, 2, 4)) || !book.New(2, 3, 4).Same(book.New(2, 3, 4)) {
		t.Errorf("P8.3: books that are alike aren't the Same")
	}
	for name, change := range map[string]func(c *book.Book){
		"the first page":                  func(c *book.Book) { c.Page(0).Put(api.Pos{}, api.Cell{Glyph: 'x'}) },
		"the last page":                   func(c *book.Book) { c.Page(2).Put(api.Pos{Row: 1, Col: 3}, api.Cell{Glyph: 'x'}) },
		"the size of a line":              func(c *book.Book) { mark(c.Page(1), 3) },
		"the status line":                 func(c *book.Book) { c.Status().Put(api.Pos{Col: 3}, api.Cell{Glyph: 'x'}) },
		"the page that one looks at":      func(c *book.Book) { c.Turn(1) },
		"whether one looks at the status": func(c *book.Book) { c.Look(true) },
		"the number of rows":              func(c *book.Book) { c.Resize(3, 4) },
		"the number of columns":           func(c *book.Book) { c.Resize(2, 5) },
		"one page's number of rows":       func(c *book.Book) { c.Page(1).Resize(3, 4) },
		"all, by Erase":                   func(c *book.Book) { c.Erase() },
	} {
		c := made(3, 2, 4)
		change(c)
		if b.Same(c) || c.Same(b) {
			t.Errorf("P8.3: books are the Same, though %s is unlike", name)
		}
	}
	fewer, more := book.New(2, 2, 4), book.New(3, 2, 4)
	if fewer.Same(more) || more.Same(fewer) {
		t.Errorf("P8.3: books of 2 and 3 pages are the Same")
	}
	// The status line doesn't stand for a page.
	fewer, more = book.New(1, 1, 4), book.New(2, 1, 4)
	if fewer.Same(more) || more.Same(fewer) {
		t.Errorf("P8.3: books of 1 and 2 pages of one row are the Same")
	}
}

// A page that was resized by itself is as a new one behind Erase.
func TestEraseOfAPageResizedByItself(t *testing.T) {
	b := made(2, 3, 4)
	b.Page(1).Resize(7, 9)
	b.Status().Resize(2, 2)
	b.Erase()
	if !b.Same(book.New(2, 3, 4)) {
		t.Errorf("P8.2: Erase: the pages aren't as new ones")
	}
}

func TestZeroBook(t *testing.T) {
	var b book.Book
	all := api.Box{Bottom: 9, Right: 9}
	for step, do := range []func(){
		func() {},
		func() { b.Turn(3) },
		func() { b.Step(math.MaxInt) },
		func() { b.Step(math.MinInt) },
		func() { b.Resize(3, 4) },
		func() { b.Erase() },
		func() { b = *b.Clone() },
		func() { b.Look(false) },
	} {
		do()
		if b.Count() != 0 || b.Now() != 0 || b.OnStatus() || b.Page(0) != nil || b.Sheet() != nil {
			t.Errorf("P8.1: the zero Book behind step %d has a page", step)
		}
		if rows, cols := b.Size(); rows != 0 || cols != 0 {
			t.Errorf("P8.1: the zero Book behind step %d: Size = %d, %d", step, rows, cols)
		}
		if b.Copy(0, all, 0, api.Pos{}) {
			t.Errorf("P8.2: the zero Book behind step %d: Copy = true", step)
		}
		if !b.Same(&b) || !b.Same(&book.Book{}) || b.Same(book.New(1, 1, 1)) || book.New(1, 1, 1).Same(&b) {
			t.Errorf("P8.3: the zero Book behind step %d: Same", step)
		}
		if b.Status().Rows() != 0 {
			t.Errorf("P8.1: the zero Book behind step %d: its status line has a row", step)
		}
	}
	b.Look(true)
	if !b.OnStatus() || b.Sheet() != b.Status() || b.Same(&book.Book{}) {
		t.Errorf("P8.1: the zero Book behind Look(true)")
	}
}

func TestTheGreatestBook(t *testing.T) {
	b := book.New(math.MaxInt, math.MaxInt, math.MaxInt)
	mark(b.Page(15), 3)
	if !b.Copy(15, b.Page(15).Box(), 0, api.Pos{}) || b.Page(0).Cells(b.Page(0).Box())[499][499] != b.Page(15).At(api.Pos{Row: 499, Col: 499}) {
		t.Errorf("P8.2: Copy of a whole page of 500 rows and columns")
	}
	if !b.Page(1).Same(page.New(500, 500)) {
		t.Errorf("P8.2: Copy touches another page")
	}
}

// Any calls, one behind the other, held against pages of their own.
func TestAnyCalls(t *testing.T) {
	rnd := rand.New(rand.NewSource(81))
	b := made(3, 2, 3)
	pages, now, status := want(3, 2, 3), 0, false
	for range 5000 {
		n := rnd.Intn(9) - 3
		switch rnd.Intn(9) {
		case 0:
			b.Turn(n)
			now = min(max(n, 0), 2)
		case 1:
			b.Step(n)
			now = min(max(now+n, 0), 2)
		case 2:
			status = n > 0
			b.Look(status)
		case 3:
			from, to := rnd.Intn(3), rnd.Intn(3)
			r, at := api.Box{Top: n, Left: n, Bottom: n + 2, Right: n + 3}, api.Pos{Row: rnd.Intn(4) - 1, Col: n}
			b.Copy(from, r, to, at)
			pages[to].Copy(pages[from], r, at)
		case 4:
			if rnd.Intn(9) == 0 {
				b.Erase()
				for i, p := range pages {
					pages[i] = page.New(p.Rows(), p.Cols())
				}
			}
		case 5:
			rows, cols := rnd.Intn(5), rnd.Intn(5)
			b.Resize(rows, cols)
			for i, p := range pages {
				p.Resize([4]int{rows, rows, rows, 1}[i], cols)
			}
		case 6:
			old := b
			b = old.Clone()
			scramble(old)
		default:
			mark(b.Sheet(), n+4)
			at := now
			if status {
				at = 3
			}
			mark(pages[at], n+4)
		}
		check(t, "P8.1, P8.2", b, pages, "one of many calls")
		checkLook(t, b, now, status, "one of many calls")
	}
}
