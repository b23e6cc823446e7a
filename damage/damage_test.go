package damage_test

import (
	"fmt"
	"math"
	"math/big"
	"math/rand"
	"reflect"
	"slices"
	"strings"
	"testing"

	"phosphor/api"
	"phosphor/damage"
	"phosphor/page"
	"phosphor/parser"
	"phosphor/rend"
	"phosphor/term"
	"phosphor/token"
)

type Span = damage.Span

const (
	least    = math.MinInt
	greatest = math.MaxInt
)

// edges are numbers that a row or column may be told by, on small pages and far from any.
var edges = []int{least, least + 1, -1 << 32, -2, -1, 0, 1, 2, 3, 4, 5, 499, 500, 501, 1 << 32, 1<<32 + 1, greatest - 1, greatest}

// written is a page that shows these texts, row by row.
func written(rows ...string) *page.Page {
	p := page.New(len(rows), len(rows[0]))
	for row, text := range rows {
		for col, c := range []byte(text) {
			p.Put(api.Pos{Row: row, Col: col}, api.Cell{Glyph: rune(c)})
		}
	}
	return p
}

// texts are the glyphs of a page, row by row.
func texts(p *page.Page) string {
	var rows []string
	for row := range p.Rows() {
		var b strings.Builder
		for _, c := range p.Line(row).Cells {
			b.WriteRune(c.Glyph)
		}
		rows = append(rows, b.String())
	}
	return strings.Join(rows, "/")
}

// anyCell is one of few cells, so that two of them are often alike.
func anyCell(r *rand.Rand) api.Cell {
	return api.Cell{Glyph: []rune{'a', 'b', ' ', '~', 0x7F, 0xE9, -1}[r.Intn(7)], Rend: api.Rend(r.Intn(3)), Kept: r.Intn(3) == 0}
}

// anyPage has some cells and sizes.
func anyPage(r *rand.Rand, rows, cols int) *page.Page {
	p := page.New(rows, cols)
	change(r, p, rows*cols/2)
	return p
}

// change puts so many cells somewhere, and now and then gives a line another size.
func change(r *rand.Rand, p *page.Page, n int) {
	for range n {
		p.Put(api.Pos{Row: r.Intn(p.Rows()), Col: r.Intn(p.Cols())}, anyCell(r))
	}
	if r.Intn(3) == 0 {
		resize(p, r.Intn(p.Rows()), r.Intn(4))
	}
}

func resize(p *page.Page, row, size int) {
	l := p.Line(row)
	l.Size = size
	p.SetLine(row, l)
}

// anyPair are two pages, mostly of the same size and much alike.
func anyPair(r *rand.Rand) (*page.Page, *page.Page) {
	a := anyPage(r, 1+r.Intn(4), 1+r.Intn(9))
	if r.Intn(6) == 0 {
		return a, anyPage(r, 1+r.Intn(4), 1+r.Intn(9))
	}
	b := a.Clone()
	change(r, b, r.Intn(8))
	return a, b
}

// parts tells of a place of b whether it is to lie in one of the spans.
func parts(a, b *page.Page, row, col int) bool {
	if a.Rows() != b.Rows() || a.Cols() != b.Cols() {
		return true
	}
	at := api.Pos{Row: row, Col: col}
	return a.Line(row).Size != b.Line(row).Size || a.At(at) != b.At(at)
}

// spansOf are the spans that Spans is to answer: where a place that parts follows on one that doesn't, a new one begins.
func spansOf(a, b *page.Page) []Span {
	var list []Span
	for row := range b.Rows() {
		for col := range b.Cols() {
			if !parts(a, b, row, col) {
				continue
			}
			end := col
			for end < b.Cols() && parts(a, b, row, end) {
				end++
			}
			if col == 0 || !parts(a, b, row, col-1) {
				list = append(list, Span{Row: row, Left: col, Right: end})
			}
		}
	}
	return list
}

func checkSpans(t *testing.T, a, b *page.Page, want ...Span) {
	t.Helper()
	wasA, wasB := a.Clone(), b.Clone()
	if got := damage.Spans(a, b); !slices.Equal(got, want) {
		t.Fatalf("P27.1: Spans of %q and %q = %v, not %v", texts(a), texts(b), got, want)
	}
	if !a.Same(wasA) || !b.Same(wasB) {
		t.Fatalf("P27.4: Spans changes a page")
	}
}

// P27.1: the cells that part, whichever of their things does.
func TestSpans(t *testing.T) {
	a := written("abcd", "efgh", "ijkl")
	checkSpans(t, written("abcd"), written("axyd"), Span{0, 1, 3})
	checkSpans(t, a, a)
	checkSpans(t, a, a.Clone())
	checkSpans(t, a, written("Abcd", "efgH", "IJKL"), Span{0, 0, 1}, Span{1, 3, 4}, Span{2, 0, 4})
	checkSpans(t, a, written("AbcD", "eFgh", "IjKl"), Span{0, 0, 1}, Span{0, 3, 4}, Span{1, 1, 2}, Span{2, 0, 1}, Span{2, 2, 3})
	b := a.Clone()
	b.Change(api.Box{Top: 1, Left: 1, Bottom: 2, Right: 2}, 1)
	b.Keep(api.Box{Top: 1, Left: 2, Bottom: 2, Right: 4}, true)
	b.Put(api.Pos{Row: 2, Col: 3}, api.Cell{Glyph: 'l' + 1<<16})
	checkSpans(t, a, b, Span{1, 1, 4}, Span{2, 3, 4})
	c := a.Clone()
	c.Put(api.Pos{Row: 0, Col: 0}, api.Cell{Glyph: 'a', Rend: 32})
	checkSpans(t, a, c, Span{0, 0, 1})
}

// P27.1: a row whose size is another one, and pages of other sizes.
func TestWholeSpans(t *testing.T) {
	a := written("abcd", "efgh")
	for size := range 4 {
		b := a.Clone()
		resize(b, 1, size)
		b.Put(api.Pos{Row: 0, Col: 2}, api.Cell{Glyph: 'x'})
		want := []Span{{0, 2, 3}, {1, 0, 4}}
		if size == api.Single {
			want = want[:1]
		}
		checkSpans(t, a, b, want...)
		checkSpans(t, b, a, want...)
		checkSpans(t, b, b.Clone())
		resize(b, 1, (size+1)%4)
		c := b.Clone()
		resize(c, 1, (size+2)%4)
		checkSpans(t, b, c, Span{1, 0, 4})
	}
	checkSpans(t, a, written("abcde", "efghi"), Span{0, 0, 5}, Span{1, 0, 5})
	checkSpans(t, a, written("abc", "efg"), Span{0, 0, 3}, Span{1, 0, 3})
	checkSpans(t, a, written("abcd"), Span{0, 0, 4})
	checkSpans(t, a, written("abcd", "efgh", "    "), Span{0, 0, 4}, Span{1, 0, 4}, Span{2, 0, 4})
	for _, none := range []*page.Page{nil, {}} {
		checkSpans(t, a, none)
		checkSpans(t, none, none)
		checkSpans(t, none, a, Span{0, 0, 4}, Span{1, 0, 4})
	}
	checkSpans(t, page.New(500, 500), page.New(500, 500))
	checkSpans(t, page.New(1, 1), written("x"), Span{0, 0, 1})
	full := page.New(500, 500)
	full.Put(api.Pos{Row: 499, Col: 499}, api.Cell{})
	checkSpans(t, page.New(500, 500), full, Span{499, 499, 500})
}

// P27.1: any pages, against a model; and Apply of all spans.
func TestSpansOfAnyPages(t *testing.T) {
	r := rand.New(rand.NewSource(1))
	for range 20000 {
		a, b := anyPair(r)
		checkSpans(t, a, b, spansOf(a, b)...)
		applied := a.Clone()
		damage.Apply(applied, b, damage.Spans(a, b)...)
		if a.Rows() == b.Rows() && a.Cols() == b.Cols() && !applied.Same(b) {
			t.Fatalf("P27.1: Apply of all spans makes %q like %q: %q", texts(a), texts(b), texts(applied))
		}
		if applied.Rows() != a.Rows() || applied.Cols() != a.Cols() {
			t.Fatalf("P27.1: Apply changes a page's size")
		}
	}
}

// applied is what a is to be behind Apply, place by place.
func applied(a, b *page.Page, spans []Span) *page.Page {
	p := a.Clone()
	for row := range min(a.Rows(), b.Rows()) {
		for _, s := range spans {
			if s.Row != row {
				continue
			}
			resize(p, row, b.Line(row).Size)
			for col := range min(a.Cols(), b.Cols()) {
				if s.Left <= col && col < s.Right {
					p.Put(api.Pos{Row: row, Col: col}, b.At(api.Pos{Row: row, Col: col}))
				}
			}
		}
	}
	return p
}

func checkApply(t *testing.T, a, b *page.Page, spans ...Span) {
	t.Helper()
	got, wasB, was := a.Clone(), b.Clone(), slices.Clone(spans)
	want := applied(a, b, spans)
	damage.Apply(got, b, spans...)
	if !got.Same(want) {
		t.Fatalf("P27.1: Apply of %q to %q with %v = %q, not %q", texts(b), texts(a), spans, texts(got), texts(want))
	}
	if !b.Same(wasB) || !slices.Equal(spans, was) {
		t.Fatalf("P27.4: Apply changes what it reads")
	}
}

// P27.1: the cells of these columns alone, and the sizes of their lines.
func TestApply(t *testing.T) {
	a, b := written("abcd", "efgh"), written("ABCD", "EFGH")
	resize(b, 0, api.Wide)
	resize(b, 1, api.Upper)
	p := a.Clone()
	damage.Apply(p, b, Span{1, 1, 3})
	if texts(p) != "abcd/eFGh" || p.Line(0).Size != api.Single || p.Line(1).Size != api.Upper {
		t.Errorf("P27.1: Apply of part of a row: %q", texts(p))
	}
	damage.Apply(p, b)
	if texts(p) != "abcd/eFGh" {
		t.Errorf("P27.1: Apply of nothing: %q", texts(p))
	}
	damage.Apply(p, b, Span{0, -5, 1}, Span{0, 3, 99}, Span{2, 0, 4}, Span{-1, 0, 4})
	if texts(p) != "AbcD/eFGh" || p.Line(0).Size != api.Wide {
		t.Errorf("P27.1: Apply of spans beyond the page: %q", texts(p))
	}
	p = a.Clone()
	damage.Apply(p, b, Span{0, 3, 2}, Span{1, 4, 9})
	if texts(p) != "abcd/efgh" || p.Line(0).Size != api.Wide || p.Line(1).Size != api.Upper {
		t.Errorf("P27.1: Apply of spans without columns: %q, sizes %d and %d", texts(p), p.Line(0).Size, p.Line(1).Size)
	}
	damage.Apply(p, p, Span{0, 0, 4})
	if texts(p) != "abcd/efgh" || p.Line(0).Size != api.Wide {
		t.Errorf("P27.1: Apply of a page to itself: %q", texts(p))
	}
	damage.Apply(b, a, Span{0, 0, 1})
	if texts(b) != "aBCD/EFGH" || b.Line(0).Size != api.Single {
		t.Errorf("P27.1: Apply of a Single line: %q", texts(b))
	}
}

// P27.1: pages of unlike sizes, and of none.
func TestApplyOfOtherSizes(t *testing.T) {
	small, great := written("ab", "cd"), written("ABCD", "EFGH", "IJKL")
	for row := range great.Rows() {
		resize(great, row, api.Lower)
	}
	pages := []*page.Page{small, great, {}, nil}
	for _, a := range pages {
		for _, b := range pages {
			checkApply(t, a, b)
			for row := -1; row < 4; row++ {
				for _, left := range edges {
					for _, right := range edges {
						checkApply(t, a, b, Span{row, left, right})
					}
				}
			}
			for _, row := range edges {
				checkApply(t, a, b, Span{row, 0, 4}, Span{row, least, greatest}, Span{row, greatest, least})
			}
		}
	}
	p := small.Clone()
	damage.Apply(p, great, Span{0, 1, 4}, Span{2, 0, 4})
	if texts(p) != "aB/cd" {
		t.Errorf("P27.1: Apply of a greater page: %q", texts(p))
	}
	damage.Apply(great, small, damage.Spans(great, small)...)
	if texts(great) != "abCD/cdGH/IJKL" || great.Line(1).Size != api.Single || great.Line(2).Size != api.Lower {
		t.Errorf("P27.1: Apply of a smaller page: %q", texts(great))
	}
}

// anySpan is one on or around a small page; now and then one far away.
func anySpan(r *rand.Rand) Span {
	s := Span{r.Intn(7) - 1, r.Intn(12) - 2, r.Intn(12) - 2}
	switch r.Intn(12) {
	case 0:
		s.Row = edges[r.Intn(len(edges))]
	case 1:
		s.Left = edges[r.Intn(len(edges))]
	case 2:
		s.Right = edges[r.Intn(len(edges))]
	}
	return s
}

func anySpans(r *rand.Rand) []Span {
	list := make([]Span, r.Intn(9))
	for i := range list {
		list[i] = anySpan(r)
	}
	return list
}

// P27.1: any pages and spans, against a model.
func TestApplyOfAnySpans(t *testing.T) {
	r := rand.New(rand.NewSource(2))
	for range 20000 {
		a, b := anyPair(r)
		checkApply(t, a, b, anySpans(r)...)
	}
}

// columns are how many a span has, of any reach.
func columns(s Span) *big.Int {
	if s.Right <= s.Left {
		return new(big.Int)
	}
	return new(big.Int).Sub(big.NewInt(int64(s.Right)), big.NewInt(int64(s.Left)))
}

func together(spans []Span) *big.Int {
	sum := new(big.Int)
	for _, s := range spans {
		sum.Add(sum, columns(s))
	}
	return sum
}

// P27.1: how many columns; more than an int can tell are the greatest one.
func TestWidth(t *testing.T) {
	for _, c := range []struct {
		spans []Span
		want  int
	}{
		{nil, 0},
		{[]Span{}, 0},
		{[]Span{{0, 1, 3}}, 2},
		{[]Span{{0, 1, 3}, {0, 1, 3}, {9, 2, 7}}, 9},
		{[]Span{{0, 3, 3}}, 0},
		{[]Span{{0, 4, 3}, {0, 0, 1}, {0, 99, 0}}, 1},
		{[]Span{{-5, -3, 2}}, 5},
		{[]Span{{0, 0, greatest}}, greatest},
		{[]Span{{0, greatest, least}}, 0},
		{[]Span{{0, least, 0}}, greatest},
		{[]Span{{0, least, greatest}, {0, 0, 1}}, greatest},
		{[]Span{{0, 0, greatest}, {0, 0, greatest}, {0, 0, 2}}, greatest},
		{[]Span{{0, 0, greatest - 1}, {0, 0, 1}}, greatest},
		{[]Span{{0, 1, greatest - 1}, {0, 0, 1}}, greatest - 1},
	} {
		if n := damage.Width(c.spans...); n != c.want {
			t.Errorf("P27.1: Width(%v) = %d, not %d", c.spans, n, c.want)
		}
	}
	r := rand.New(rand.NewSource(3))
	for range 20000 {
		spans := anySpans(r)
		want := together(spans)
		if !want.IsInt64() {
			want.SetInt64(greatest)
		}
		was := slices.Clone(spans)
		if n := damage.Width(spans...); int64(n) != want.Int64() || !slices.Equal(spans, was) {
			t.Fatalf("P27.1: Width(%v) = %d, not %v", was, n, want)
		}
	}
}

// ahead tells whether of two spans with as many columns the first is taken ahead of the other.
func ahead(a, b Span) bool {
	return a.Row < b.Row || a.Row == b.Row && a.Left < b.Left
}

// planned is what Plan is to answer: step by step one of those that are left is looked for.
func planned(spans []Span, budget int) ([]Span, []Span) {
	left := big.NewInt(int64(budget))
	rest := slices.Clone(spans)
	var taken []Span
	for {
		best := -1
		for i, s := range rest {
			if columns(s).Cmp(left) > 0 {
				continue
			}
			if best < 0 {
				best = i
				continue
			}
			more := columns(s).Cmp(columns(rest[best]))
			if more > 0 || more == 0 && ahead(s, rest[best]) {
				best = i
			}
		}
		if best < 0 {
			return taken, rest
		}
		taken = append(taken, rest[best])
		left.Sub(left, columns(rest[best]))
		rest = slices.Delete(rest, best, best+1)
	}
}

func checkPlan(t *testing.T, spans []Span, budget int) {
	t.Helper()
	was := slices.Clone(spans)
	wantTaken, wantRest := planned(spans, budget)
	taken, rest := damage.Plan(spans, budget)
	if !slices.Equal(taken, wantTaken) || !slices.Equal(rest, wantRest) {
		t.Fatalf("P27.2: Plan(%v, %d) = %v and %v, not %v and %v", spans, budget, taken, rest, wantTaken, wantRest)
	}
	left := new(big.Int).Sub(big.NewInt(int64(budget)), together(taken))
	if len(taken) > 0 && left.Sign() < 0 {
		t.Fatalf("P27.2: Plan(%v, %d) takes more: %v", spans, budget, taken)
	}
	for _, s := range rest {
		if columns(s).Cmp(left) <= 0 {
			t.Fatalf("P27.2: Plan(%v, %d): %v would have fitted", spans, budget, s)
		}
	}
	if !slices.Equal(spans, was) {
		t.Fatalf("P27.4: Plan changes what it is handed")
	}
}

// P27.2: the greatest that fits, again and again.
func TestPlan(t *testing.T) {
	of := func(n int) Span { return Span{0, 0, n} }
	for _, c := range []struct {
		spans, taken, rest []Span
		budget             int
	}{
		{[]Span{of(5), of(3), of(2)}, []Span{of(5), of(2)}, []Span{of(3)}, 7},
		{[]Span{of(2), of(3), of(5)}, []Span{of(5), of(2)}, []Span{of(3)}, 7},
		{[]Span{of(2), of(3), of(5)}, []Span{of(5), of(3), of(2)}, nil, 10},
		{[]Span{of(2), of(3), of(5)}, []Span{of(5), of(3)}, []Span{of(2)}, 9},
		{[]Span{of(2), of(3), of(5)}, []Span{of(3)}, []Span{of(2), of(5)}, 4},
		{[]Span{of(9), of(1), of(8)}, nil, []Span{of(9), of(1), of(8)}, 0},
		{[]Span{of(9), of(1), of(8)}, nil, []Span{of(9), of(1), of(8)}, -1},
		{nil, nil, nil, 5},
		{[]Span{{2, 0, 3}, {1, 5, 8}, {1, 4, 7}}, []Span{{1, 4, 7}, {1, 5, 8}, {2, 0, 3}}, nil, 9},
		{[]Span{{2, 0, 3}, {1, 5, 8}, {1, 4, 7}}, []Span{{1, 4, 7}}, []Span{{2, 0, 3}, {1, 5, 8}}, 5},
		{[]Span{{-1, 5, 8}, {-2, 9, 12}, {-2, -9, -6}}, []Span{{-2, -9, -6}, {-2, 9, 12}, {-1, 5, 8}}, nil, 9},
		{[]Span{{3, 4, 4}, {3, 4, 1}, {0, 0, 2}, {3, 1, 0}, {1, 9, 9}}, []Span{{0, 0, 2}, {1, 9, 9}, {3, 1, 0}, {3, 4, 4}, {3, 4, 1}}, nil, 2},
		{[]Span{{3, 4, 4}, {0, 0, 2}}, []Span{{3, 4, 4}}, []Span{{0, 0, 2}}, 0},
		{[]Span{{3, 4, 4}, {0, 0, 2}}, nil, []Span{{3, 4, 4}, {0, 0, 2}}, -1},
		{[]Span{{0, 0, 1}, {0, least, greatest}, {0, -1, greatest}, {0, 0, greatest}}, []Span{{0, 0, greatest}}, []Span{{0, 0, 1}, {0, least, greatest}, {0, -1, greatest}}, greatest},
		{[]Span{{0, greatest, least}, {0, 0, 1}}, []Span{{0, 0, 1}, {0, greatest, least}}, nil, 1},
		{[]Span{{0, 0, 1}, {0, least, greatest}}, nil, []Span{{0, 0, 1}, {0, least, greatest}}, least},
	} {
		taken, rest := damage.Plan(c.spans, c.budget)
		if !slices.Equal(taken, c.taken) || !slices.Equal(rest, c.rest) {
			t.Errorf("P27.2: Plan(%v, %d) = %v and %v, not %v and %v", c.spans, c.budget, taken, rest, c.taken, c.rest)
		}
		checkPlan(t, c.spans, c.budget)
	}
}

// P27.2: of those that aren't to be told apart otherwise, the one that stands first; seen by those whose Right differs where they have no columns.
func TestPlanTakesTheFirst(t *testing.T) {
	var spans []Span
	for i := range 50 {
		spans = append(spans, Span{i % 2, 7, 7 - i%5})
	}
	checkPlan(t, spans, 0)
	checkPlan(t, spans, 3)
}

// P27.2: any spans and budgets, against a model.
func TestPlanOfAnySpans(t *testing.T) {
	r := rand.New(rand.NewSource(4))
	for range 30000 {
		spans := anySpans(r)
		for i := range spans {
			if i > 0 && r.Intn(4) == 0 {
				spans[i] = spans[r.Intn(i)]
			}
		}
		checkPlan(t, spans, r.Intn(30)-2)
		checkPlan(t, spans, edges[r.Intn(len(edges))])
	}
	many := make([]Span, 3000)
	for i := range many {
		many[i] = Span{r.Intn(40), r.Intn(9), r.Intn(9)}
	}
	checkPlan(t, many, 700)
}

// painted is what Paint is to answer: place by place, by way of what the cell ahead was.
func painted(p *page.Page, spans []Span) string {
	var b strings.Builder
	var last *api.Cell
	for _, s := range spans {
		first := true
		for col := range p.Cols() {
			if s.Row < 0 || s.Row >= p.Rows() || col < s.Left || col >= s.Right {
				continue
			}
			if first {
				fmt.Fprintf(&b, "\x1b[%d;%dH", s.Row+1, col+1)
				first = false
			}
			c := p.At(api.Pos{Row: s.Row, Col: col})
			if last == nil || last.Rend != c.Rend {
				numbers := strings.ReplaceAll(strings.Trim(fmt.Sprint(rend.Params(c.Rend)), "[]"), " ", ";")
				fmt.Fprintf(&b, "\x1b[%sm", numbers)
			}
			if last == nil || last.Kept != c.Kept {
				fmt.Fprintf(&b, "\x1b[%d\"q", map[bool]int{true: 1}[c.Kept])
			}
			if c.Glyph >= ' ' && c.Glyph <= '~' {
				b.WriteByte(byte(c.Glyph))
			} else {
				b.WriteByte('?')
			}
			last = &c
		}
	}
	if last != nil {
		b.WriteString("\x1b[0m\x1b[0\"q")
	}
	return b.String()
}

func checkPaint(t *testing.T, p *page.Page, spans ...Span) {
	t.Helper()
	was, wasSpans := p.Clone(), slices.Clone(spans)
	if got, want := string(damage.Paint(p, spans...)), painted(p, spans); got != want {
		t.Fatalf("P27.3: Paint of %q with %v = %q, not %q", texts(p), spans, got, want)
	}
	if !p.Same(was) || !slices.Equal(spans, wasSpans) {
		t.Fatalf("P27.4: Paint changes what it reads")
	}
}

// P27.3: the bytes, one by one.
func TestPaint(t *testing.T) {
	p := written("abcd", "efgh")
	p.Change(api.Box{Top: 0, Left: 1, Bottom: 1, Right: 3}, 1, 8)
	p.Keep(api.Box{Top: 0, Left: 2, Bottom: 2, Right: 3}, true)
	p.Put(api.Pos{Row: 1, Col: 3}, api.Cell{Glyph: 0x2500})
	for _, c := range []struct {
		spans []Span
		want  string
	}{
		{nil, ""},
		{[]Span{{0, 0, 1}}, "\x1b[1;1H\x1b[0m\x1b[0\"qa\x1b[0m\x1b[0\"q"},
		{[]Span{{1, 2, 3}}, "\x1b[2;3H\x1b[0m\x1b[1\"qg\x1b[0m\x1b[0\"q"},
		{[]Span{{0, 0, 4}}, "\x1b[1;1H\x1b[0m\x1b[0\"qa\x1b[0;1;8mb\x1b[1\"qc\x1b[0m\x1b[0\"qd\x1b[0m\x1b[0\"q"},
		{[]Span{{1, 0, 1}, {0, 0, 1}, {1, 3, 4}}, "\x1b[2;1H\x1b[0m\x1b[0\"qe\x1b[1;1Ha\x1b[2;4H?\x1b[0m\x1b[0\"q"},
		{[]Span{{0, 2, 3}, {1, 2, 3}}, "\x1b[1;3H\x1b[0;1;8m\x1b[1\"qc\x1b[2;3H\x1b[0mg\x1b[0m\x1b[0\"q"},
		{[]Span{{0, -9, 1}, {0, 3, 99}}, "\x1b[1;1H\x1b[0m\x1b[0\"qa\x1b[1;4Hd\x1b[0m\x1b[0\"q"},
		{[]Span{{0, 4, 9}, {-1, 0, 4}, {2, 0, 4}, {0, 1, 1}, {0, 3, 1}, {0, -4, 0}}, ""},
		{[]Span{{0, 4, 9}, {1, 0, 1}, {0, 1, 1}}, "\x1b[2;1H\x1b[0m\x1b[0\"qe\x1b[0m\x1b[0\"q"},
	} {
		if got := string(damage.Paint(p, c.spans...)); got != c.want {
			t.Errorf("P27.3: Paint with %v = %q, not %q", c.spans, got, c.want)
		}
	}
	for _, none := range []*page.Page{nil, {}} {
		if b := damage.Paint(none, Span{0, 0, 1}); len(b) != 0 {
			t.Errorf("P27.3: Paint of no page = %q", b)
		}
	}
}

// P27.3: every glyph of a byte, and some others.
func TestPaintGlyphs(t *testing.T) {
	p := page.New(1, 1)
	for _, first := range []rune{0, 'A' + 1<<8, 'A' + 1<<16, 'A' - 1<<8, math.MinInt32, math.MaxInt32 - 255} {
		for glyph := first; glyph < first+255; glyph++ {
			p.Put(api.Pos{}, api.Cell{Glyph: glyph})
			checkPaint(t, p, Span{0, 0, 1})
		}
	}
}

// P27.3: all spans of small pages, and any of them, against a model; far places, too.
func TestPaintOfAnySpans(t *testing.T) {
	r := rand.New(rand.NewSource(5))
	for range 20000 {
		p := anyPage(r, 1+r.Intn(4), 1+r.Intn(9))
		checkPaint(t, p, anySpans(r)...)
	}
	p := anyPage(r, 2, 4)
	for _, row := range edges {
		for _, left := range edges {
			for _, right := range edges {
				checkPaint(t, p, Span{row, left, right})
			}
		}
	}
	great := page.New(500, 500)
	checkPaint(t, great, Span{499, 499, 500}, Span{0, least, greatest}, Span{499, least, greatest})
}

// P27.3: a parser reads what is painted, and all of it is of seven bits.
func TestPaintIsRead(t *testing.T) {
	r := rand.New(rand.NewSource(6))
	ids := map[string]bool{"H": true, "m": true, "\"q": true}
	for range 2000 {
		p := anyPage(r, 1+r.Intn(4), 1+r.Intn(9))
		b := damage.Paint(p, anySpans(r)...)
		if slices.ContainsFunc(b, func(c byte) bool { return c > 0x7E }) {
			t.Fatalf("P27.3: %q has bytes of eight bits", b)
		}
		var stream parser.Parser
		for _, x := range stream.Feed(b) {
			if x.Kind != token.Print && (x.Kind != token.Csi || !ids[token.Id(x)]) {
				t.Fatalf("P27.3: %q has %v", b, x)
			}
		}
	}
}

// plain is any page that Paint can tell of in full.
func plain(r *rand.Rand, rows, cols int) *page.Page {
	p := page.New(rows, cols)
	for range r.Intn(3 * rows * cols) {
		c := api.Cell{Glyph: rune(0x20 + r.Intn(0x5F)), Rend: api.Rend(r.Intn(32)), Kept: r.Intn(2) == 0}
		p.Put(api.Pos{Row: r.Intn(rows), Col: r.Intn(cols)}, c)
	}
	return p
}

// screen is a terminal in which lines don't go on, and what it looks at.
func screen(t *testing.T, r *rand.Rand, rows, cols int) (*term.Terminal, *page.Page) {
	x, err := term.New(rows, cols, 1+r.Intn(3))
	if err != api.OK {
		t.Fatalf("term.New(%d, %d): %v", rows, cols, err)
	}
	x.Feed([]byte("\x1b[?7l"))
	noise := []string{"ab\ncd", "\x1b[1;7mx", "\x1b[1\"qkept", "\x1b[9;9H", "\x1b[L", "\x1b[2P", "\x1b[65;1;1;2;2$x", "\x1b[?6h", "\x1b[ P", "\x1b[2@", "\x1b[31m", "\x1b[?2J", "\x1bM"}
	for range r.Intn(12) {
		x.Feed([]byte(noise[r.Intn(len(noise))]))
	}
	return x, x.Book().Sheet()
}

// P27.3: a terminal shows what was painted on it, whatever it showed.
func TestPaintedOnATerminal(t *testing.T) {
	r := rand.New(rand.NewSource(7))
	for range 3000 {
		rows, cols := 1+r.Intn(5), 1+r.Intn(9)
		x, a := screen(t, r, rows, cols)
		for range 3 {
			b := plain(r, rows, cols)
			if r.Intn(2) == 0 {
				b = a.Clone()
				b.Copy(plain(r, 2, 3), api.Box{Bottom: 2, Right: 3}, api.Pos{Row: r.Intn(rows), Col: r.Intn(cols)})
			}
			bytes := damage.Paint(b, damage.Spans(a, b)...)
			if answer := x.Feed(bytes); len(answer) != 0 {
				t.Fatalf("P27.3: %q is answered by %q", bytes, answer)
			}
			shown := x.Book().Sheet()
			if !shown.Same(b) {
				t.Fatalf("P27.3: on %q behind %q stands %q, not %q", texts(a), bytes, texts(shown), texts(b))
			}
			if c := x.Core().Cursor; len(bytes) > 0 && (c.Rend != 0 || c.Kept) {
				t.Fatalf("P27.3: behind %q the cursor's rendition and keeping are %v", bytes, c)
			}
			a = shown
		}
	}
}

// P27.3: spans within a budget, and the others later, paint the same.
func TestPaintedByParts(t *testing.T) {
	r := rand.New(rand.NewSource(8))
	for range 1000 {
		rows, cols := 1+r.Intn(5), 1+r.Intn(9)
		x, a := screen(t, r, rows, cols)
		b := plain(r, rows, cols)
		spans := damage.Spans(a, b)
		for steps := 0; len(spans) > 0; steps++ {
			var now []Span
			now, spans = damage.Plan(spans, cols+steps)
			if len(now) == 0 {
				t.Fatalf("P27.2: nothing of %v is taken", spans)
			}
			damage.Apply(a, b, now...)
			x.Feed(damage.Paint(b, now...))
			if !x.Book().Sheet().Same(a) {
				t.Fatalf("P27.3: painted is %q, applied %q", texts(x.Book().Sheet()), texts(a))
			}
		}
		if !a.Same(b) {
			t.Fatalf("P27.1: %q isn't %q", texts(a), texts(b))
		}
	}
}

// P27.4: answers are new memory, and what is handed in keeps its spare room as it was.
func TestMemory(t *testing.T) {
	a, b := written("abcd", "efgh"), written("aBCd", "EfgH")
	first, second := damage.Spans(a, b), damage.Spans(a, b)
	first[0].Left = 9
	if second[0] != (Span{0, 1, 3}) {
		t.Errorf("P27.4: Spans answers shared memory")
	}
	room := []Span{{0, 0, 3}, {1, 0, 2}, {2, 0, 1}, {3, 3, 3}, {9, 9, 9}}
	was := slices.Clone(room)
	spans := room[:3]
	taken, rest := damage.Plan(spans, 4)
	if !reflect.DeepEqual([][]Span{taken, rest}, [][]Span{{{0, 0, 3}, {2, 0, 1}}, {{1, 0, 2}}}) {
		t.Errorf("P27.2: Plan(%v, 4) = %v and %v", spans, taken, rest)
	}
	for _, list := range [][]Span{taken, rest} {
		list = list[:cap(list)]
		for i := range list {
			list[i] = Span{-1, -1, -1}
		}
	}
	damage.Apply(a.Clone(), b, spans...)
	damage.Paint(b, spans...)
	damage.Width(spans...)
	if !slices.Equal(room, was) {
		t.Errorf("P27.4: spans that are handed in become %v", room)
	}
	one, two := damage.Paint(b, spans...), damage.Paint(b, spans...)
	for i := range one {
		one[i] = 'x'
	}
	if string(two) != painted(b, spans) {
		t.Errorf("P27.4: Paint answers shared memory")
	}
	damage.Apply(a, b, damage.Spans(a, b)...)
	a.Put(api.Pos{}, api.Cell{Glyph: 'Z'})
	if texts(b) != "aBCd/EfgH" {
		t.Errorf("P27.4: pages share cells behind Apply")
	}
}
