package box_test

import (
	"math"
	"slices"
	"testing"

	"phosphor/api"
	"phosphor/box"
)

// far are numbers that would overflow, if they were added to anything.
var far = []int{math.MinInt, math.MinInt + 1, math.MinInt32, -1 << 32, -65536, 65536, math.MaxInt32, 1 << 32, 1<<32 + 1, math.MaxInt - 1, math.MaxInt}

// mixed are near numbers, and far ones.
var mixed = append([]int{-2, -1, 0, 1, 2, 3}, far...)

// boxes are all whose four numbers are of these.
func boxes(numbers []int) []api.Box {
	var list []api.Box
	for _, top := range numbers {
		for _, left := range numbers {
			for _, bottom := range numbers {
				for _, right := range numbers {
					list = append(list, api.Box{Top: top, Left: left, Bottom: bottom, Right: right})
				}
			}
		}
	}
	return list
}

// small are boxes about 0, 0, most of them without a place.
func small() []api.Box {
	return boxes([]int{-2, -1, 0, 1, 2})
}

// around are all places that a small box may have, and those at their edges.
func around() []api.Pos {
	var list []api.Pos
	for row := -4; row <= 4; row++ {
		for col := -4; col <= 4; col++ {
			list = append(list, api.Pos{Row: row, Col: col})
		}
	}
	return list
}

// within tells by the document's words whether a place is in a box.
func within(b api.Box, p api.Pos) bool {
	if p.Row < b.Top || p.Col < b.Left {
		return false
	}
	return p.Row < b.Bottom && p.Col < b.Right
}

// places are those of a small box, row by row.
func places(b api.Box) []api.Pos {
	var list []api.Pos
	for _, p := range around() {
		if within(b, p) {
			list = append(list, p)
		}
	}
	return list
}

// bounds is the box whose places these are; of none the zero Box.
func bounds(list []api.Pos) api.Box {
	if len(list) == 0 {
		return api.Box{}
	}
	first, last := list[0], list[len(list)-1]
	return api.Box{Top: first.Row, Left: first.Col, Bottom: last.Row + 1, Right: last.Col + 1}
}

func TestWhole(t *testing.T) {
	for _, x := range []struct {
		rows, cols int
		want       api.Box
	}{
		{0, 0, api.Box{}},
		{24, 80, api.Box{Bottom: 24, Right: 80}},
		{1, 1, api.Box{Bottom: 1, Right: 1}},
		{0, 5, api.Box{Right: 5}},
		{5, 0, api.Box{Bottom: 5}},
		{-1, 5, api.Box{Right: 5}},
		{5, -1, api.Box{Bottom: 5}},
		{-3, -4, api.Box{}},
		{math.MinInt, math.MaxInt, api.Box{Right: math.MaxInt}},
		{math.MaxInt, math.MinInt, api.Box{Bottom: math.MaxInt}},
		{1000, 70000, api.Box{Bottom: 1000, Right: 70000}},
	} {
		if got := box.Whole(x.rows, x.cols); got != x.want {
			t.Errorf("P5.1: Whole(%d, %d) = %v, not %v", x.rows, x.cols, got, x.want)
		}
	}
}

func TestEmptyAndSize(t *testing.T) {
	for _, b := range small() {
		list := places(b)
		if got := box.Empty(b); got != (len(list) == 0) {
			t.Errorf("P5.1: Empty(%v) = %v", b, got)
		}
		wantRows, wantCols := 0, 0
		for _, p := range list {
			if p.Col == list[0].Col {
				wantRows++
			}
			if p.Row == list[0].Row {
				wantCols++
			}
		}
		if rows, cols := box.Size(b); rows != wantRows || cols != wantCols {
			t.Errorf("P5.1: Size(%v) = %d, %d, not %d, %d", b, rows, cols, wantRows, wantCols)
		}
	}
}

func TestSizeExamples(t *testing.T) {
	for _, x := range []struct {
		b          api.Box
		rows, cols int
	}{
		{api.Box{}, 0, 0},
		{api.Box{Top: 2, Left: 3, Bottom: 8, Right: 9}, 6, 6},
		{api.Box{Top: 2, Left: 3, Bottom: 3, Right: 40}, 1, 37},
		{api.Box{Top: 2, Left: 3, Bottom: 2, Right: 40}, 0, 0},
		{api.Box{Top: 2, Left: 3, Bottom: 20, Right: 3}, 0, 0},
		{api.Box{Top: 2, Left: 3, Bottom: 1, Right: 2}, 0, 0},
		{api.Box{Top: -7, Left: -70, Bottom: -2, Right: 30}, 5, 100},
		{api.Box{Bottom: math.MaxInt, Right: math.MaxInt - 1}, math.MaxInt, math.MaxInt - 1},
		{api.Box{Top: math.MinInt, Left: math.MinInt, Bottom: -1, Right: -2}, math.MaxInt, math.MaxInt - 1},
		{api.Box{Top: math.MaxInt - 1, Left: math.MinInt, Bottom: math.MaxInt, Right: math.MinInt + 1}, 1, 1},
		{api.Box{Top: math.MaxInt, Left: math.MaxInt, Bottom: math.MinInt, Right: math.MinInt}, 0, 0},
		{api.Box{Top: math.MaxInt, Left: 0, Bottom: math.MinInt, Right: 5}, 0, 0},
		{api.Box{Top: 0, Left: math.MaxInt, Bottom: 5, Right: math.MinInt}, 0, 0},
	} {
		if rows, cols := box.Size(x.b); rows != x.rows || cols != x.cols {
			t.Errorf("P5.1: Size(%v) = %d, %d, not %d, %d", x.b, rows, cols, x.rows, x.cols)
		}
		if got := box.Empty(x.b); got != (x.rows == 0) {
			t.Errorf("P5.1: Empty(%v) = %v", x.b, got)
		}
	}
}

func TestIn(t *testing.T) {
	for _, b := range small() {
		for _, p := range around() {
			if got := box.In(b, p); got != within(b, p) {
				t.Errorf("P5.1: In(%v, %v) = %v", b, p, got)
			}
		}
	}
	for _, b := range boxes([]int{math.MinInt, -1, 0, 3, math.MaxInt}) {
		for _, row := range mixed {
			for _, col := range mixed {
				p := api.Pos{Row: row, Col: col}
				if got := box.In(b, p); got != within(b, p) {
					t.Errorf("P5.1: In(%v, %v) = %v", b, p, got)
				}
			}
		}
	}
}

// What two boxes have is told place by place; so that box is known whole.
func TestMeet(t *testing.T) {
	list := small()
	sets := make([][]api.Pos, len(list))
	for i, b := range list {
		sets[i] = places(b)
	}
	for i, a := range list {
		for _, b := range list {
			var both []api.Pos
			for _, p := range sets[i] {
				if within(b, p) {
					both = append(both, p)
				}
			}
			if got := box.Meet(a, b); got != bounds(both) {
				t.Fatalf("P5.1: Meet(%v, %v) = %v, not %v", a, b, got, bounds(both))
			}
		}
	}
}

func TestMeetFar(t *testing.T) {
	const least, most = math.MinInt, math.MaxInt
	all := api.Box{Top: least, Left: least, Bottom: most, Right: most}
	b := api.Box{Top: 2, Left: 3, Bottom: 8, Right: 9}
	for _, x := range []struct{ a, b, want api.Box }{
		{all, all, all},
		{all, b, b},
		{b, api.Box{Top: 4, Left: 5, Bottom: 40, Right: 50}, api.Box{Top: 4, Left: 5, Bottom: 8, Right: 9}},
		{b, api.Box{Top: -4, Left: -5, Bottom: 4, Right: 5}, api.Box{Top: 2, Left: 3, Bottom: 4, Right: 5}},
		{b, api.Box{Top: 4, Left: -5, Bottom: 40, Right: 5}, api.Box{Top: 4, Left: 3, Bottom: 8, Right: 5}},
		{b, api.Box{Top: 8, Left: 3, Bottom: 40, Right: 50}, api.Box{}},
		{b, api.Box{Top: 2, Left: 9, Bottom: 40, Right: 50}, api.Box{}},
		{b, api.Box{Top: -9, Left: -9, Bottom: 2, Right: 50}, api.Box{}},
		{b, api.Box{Top: -9, Left: -9, Bottom: 50, Right: 3}, api.Box{}},
		{api.Box{Top: least, Left: 1, Bottom: most, Right: 2}, api.Box{Top: 1, Left: least, Bottom: 2, Right: most}, api.Box{Top: 1, Left: 1, Bottom: 2, Right: 2}},
		{all, api.Box{Top: most, Left: most, Bottom: least, Right: least}, api.Box{}},
		{all, api.Box{Top: 5, Left: 5, Bottom: 5, Right: 9}, api.Box{}},
	} {
		if got := box.Meet(x.a, x.b); got != x.want {
			t.Errorf("P5.1: Meet(%v, %v) = %v, not %v", x.a, x.b, got, x.want)
		}
		if got := box.Meet(x.b, x.a); got != x.want {
			t.Errorf("P5.1: Meet(%v, %v) = %v, not %v", x.b, x.a, got, x.want)
		}
	}
}

func distance(a, b int) int {
	return max(a-b, b-a)
}

func TestClamp(t *testing.T) {
	for _, b := range small() {
		list := places(b)
		for _, p := range around() {
			want := api.Pos{Row: b.Top, Col: b.Left}
			if len(list) > 0 {
				want = list[0]
			}
			for _, q := range list {
				if distance(q.Row, p.Row) < distance(want.Row, p.Row) {
					want.Row = q.Row
				}
				if distance(q.Col, p.Col) < distance(want.Col, p.Col) {
					want.Col = q.Col
				}
			}
			if got := box.Clamp(b, p); got != want {
				t.Errorf("P5.1: Clamp(%v, %v) = %v, not %v", b, p, got, want)
			}
		}
	}
}

func TestClampFar(t *testing.T) {
	const least, most = math.MinInt, math.MaxInt
	b := api.Box{Top: 2, Left: 3, Bottom: 8, Right: 19}
	all := api.Box{Top: least, Left: least, Bottom: most, Right: most}
	for _, x := range []struct {
		b       api.Box
		p, want api.Pos
	}{
		{b, api.Pos{Row: 5, Col: 6}, api.Pos{Row: 5, Col: 6}},
		{b, api.Pos{Row: least, Col: most}, api.Pos{Row: 2, Col: 18}},
		{b, api.Pos{Row: most, Col: least}, api.Pos{Row: 7, Col: 3}},
		{b, api.Pos{Row: 8, Col: 19}, api.Pos{Row: 7, Col: 18}},
		{all, api.Pos{Row: least, Col: most}, api.Pos{Row: least, Col: most - 1}},
		{all, api.Pos{Row: 5, Col: -6}, api.Pos{Row: 5, Col: -6}},
		{api.Box{Top: 4, Left: 5, Bottom: least, Right: least}, api.Pos{Row: -9, Col: 9}, api.Pos{Row: 4, Col: 5}},
		{api.Box{Top: most, Left: most, Bottom: least, Right: least}, api.Pos{}, api.Pos{Row: most, Col: most}},
		{api.Box{Top: least, Left: least, Bottom: least, Right: least}, api.Pos{}, api.Pos{Row: least, Col: least}},
		{api.Box{Top: 4, Left: 5, Bottom: 9, Right: 5}, api.Pos{Row: 7, Col: 7}, api.Pos{Row: 4, Col: 5}},
		{api.Box{Top: 4, Left: 5, Bottom: 4, Right: 9}, api.Pos{Row: 7, Col: 7}, api.Pos{Row: 4, Col: 5}},
	} {
		if got := box.Clamp(x.b, x.p); got != x.want {
			t.Errorf("P5.1: Clamp(%v, %v) = %v, not %v", x.b, x.p, got, x.want)
		}
	}
}

func TestSpanExamples(t *testing.T) {
	for _, x := range []struct {
		n, first, last int
		from, below    int
		ok             bool
	}{
		{24, 0, 0, 0, 24, true},
		{24, 5, 5, 0, 0, false},
		{24, 5, 99, 4, 24, true},
		{24, 5, 9, 4, 9, true},
		{24, 1, 24, 0, 24, true},
		{24, 1, 2, 0, 2, true},
		{24, 1, 1, 0, 0, false},
		{24, 0, 1, 0, 0, false},
		{24, 0, 2, 0, 2, true},
		{24, 23, 24, 22, 24, true},
		{24, 23, 0, 22, 24, true},
		{24, 24, 0, 0, 0, false},
		{24, 24, 24, 0, 0, false},
		{24, 24, 99, 0, 0, false},
		{24, 99, 99, 0, 0, false},
		{24, 98, 99, 0, 0, false},
		{24, 9, 5, 0, 0, false},
		{24, -1, 5, 0, 0, false},
		{24, 5, -1, 0, 0, false},
		{24, -2, -1, 0, 0, false},
		{2, 0, 0, 0, 2, true},
		{2, 1, 2, 0, 2, true},
		{2, 2, 2, 0, 0, false},
		{1, 0, 0, 0, 0, false},
		{1, 1, 1, 0, 0, false},
		{1, 1, 2, 0, 0, false},
		{0, 0, 0, 0, 0, false},
		{0, 1, 2, 0, 0, false},
		{-5, 0, 0, 0, 0, false},
		{-1, 1, 2, 0, 0, false},
		{-5, -9, -6, 0, 0, false},
		{24, 3, math.MaxInt, 2, 24, true},
		{24, math.MaxInt, 0, 0, 0, false},
		{24, math.MaxInt - 1, math.MaxInt, 0, 0, false},
		{24, math.MinInt, 5, 0, 0, false},
		{24, 5, math.MinInt, 0, 0, false},
		{24, math.MinInt, math.MinInt, 0, 0, false},
		{24, 1<<32 + 1, 1<<32 + 5, 0, 0, false},
		{math.MaxInt, 0, 0, 0, math.MaxInt, true},
		{math.MaxInt, math.MaxInt - 1, math.MaxInt, math.MaxInt - 2, math.MaxInt, true},
		{math.MinInt, 0, 0, 0, 0, false},
		{math.MinInt, 1, 2, 0, 0, false},
		{math.MinInt, math.MinInt, math.MaxInt, 0, 0, false},
	} {
		if from, below, ok := box.Span(x.n, x.first, x.last); from != x.from || below != x.below || ok != x.ok {
			t.Errorf("P5.2: Span(%d, %d, %d) = %d, %d, %v", x.n, x.first, x.last, from, below, ok)
		}
	}
}

// lines are those between two numbers by the document's words: counted, so that nothing is added to a number.
func lines(n, first, last int) []int {
	var list []int
	for i := range max(n, 0) {
		number := i + 1
		if number >= first && (last == 0 || number <= last) {
			list = append(list, i)
		}
	}
	return list
}

func TestSpan(t *testing.T) {
	numbers := append([]int{-3, -2, -1, 0, 1, 2, 3, 4, 5, 6, 7, 8, 9}, far...)
	for n := -2; n <= 7; n++ {
		for _, first := range numbers {
			for _, last := range numbers {
				from, below, ok := box.Span(n, first, last)
				want := lines(n, first, last)
				if first < 0 || last < 0 || len(want) < 2 {
					if from != 0 || below != 0 || ok {
						t.Errorf("P5.2: Span(%d, %d, %d) = %d, %d, %v", n, first, last, from, below, ok)
					}
				} else if from != want[0] || below != want[len(want)-1]+1 || !ok {
					t.Errorf("P5.2: Span(%d, %d, %d) = %d, %d, %v, not %v", n, first, last, from, below, ok, want)
				}
			}
		}
	}
}

func TestRectExamples(t *testing.T) {
	frame := api.Box{Top: 2, Left: 3, Bottom: 8, Right: 9}
	none := api.Box{}
	for _, x := range []struct {
		list []int
		i    int
		want api.Box
		ok   bool
	}{
		{[]int{2, 1, 0, 99}, 0, api.Box{Top: 3, Left: 3, Bottom: 8, Right: 9}, true},
		{[]int{3, 1, 2}, 0, none, false},
		{nil, 0, frame, true},
		{[]int{}, 0, frame, true},
		{[]int{0, 0, 0, 0}, 0, frame, true},
		{[]int{1, 1, 6, 6}, 0, frame, true},
		{[]int{1, 1, 7, 7}, 0, frame, true},
		{[]int{1, 1, 1, 1}, 0, api.Box{Top: 2, Left: 3, Bottom: 3, Right: 4}, true},
		{[]int{6, 6, 6, 6}, 0, api.Box{Top: 7, Left: 8, Bottom: 8, Right: 9}, true},
		{[]int{6, 6}, 0, api.Box{Top: 7, Left: 8, Bottom: 8, Right: 9}, true},
		{[]int{2, 3, 4, 5}, 0, api.Box{Top: 3, Left: 5, Bottom: 6, Right: 8}, true},
		{[]int{2}, 0, api.Box{Top: 3, Left: 3, Bottom: 8, Right: 9}, true},
		{[]int{0, 2}, 0, api.Box{Top: 2, Left: 4, Bottom: 8, Right: 9}, true},
		{[]int{0, 0, 2}, 0, api.Box{Top: 2, Left: 3, Bottom: 4, Right: 9}, true},
		{[]int{0, 0, 0, 2}, 0, api.Box{Top: 2, Left: 3, Bottom: 8, Right: 5}, true},
		{[]int{7}, 0, none, false},
		{[]int{7, 0, 7}, 0, none, false},
		{[]int{0, 7}, 0, none, false},
		{[]int{0, 7, 0, 7}, 0, none, false},
		{[]int{99, 1, 99, 1}, 0, none, false},
		{[]int{3, 1, 2, 6}, 0, none, false},
		{[]int{1, 4, 6, 3}, 0, none, false},
		{[]int{-1, 1, 6, 6}, 0, none, false},
		{[]int{1, -1, 6, 6}, 0, none, false},
		{[]int{1, 1, -1, 6}, 0, none, false},
		{[]int{1, 1, 6, -1}, 0, none, false},
		{[]int{1, 1, 6, 6, -1}, 0, frame, true},
		{[]int{-1, 2, 3, 4, 5, -1}, 1, api.Box{Top: 3, Left: 5, Bottom: 6, Right: 8}, true},
		{[]int{9, 9, 9, 2, 3, 4, 5}, 3, api.Box{Top: 3, Left: 5, Bottom: 6, Right: 8}, true},
		{[]int{9, 9, 9, 2}, 3, api.Box{Top: 3, Left: 3, Bottom: 8, Right: 9}, true},
		{[]int{9, 9, 9, 2}, 4, frame, true},
		{[]int{9, 9, 9, 2}, 5, frame, true},
		{[]int{9, 9, 9, 9}, 99, frame, true},
		{[]int{9, 9, 9, 9}, -1, frame, true},
		{[]int{-9, -9, -9, -9}, -2, frame, true},
		{[]int{5, 5, 5, 5}, -3, frame, true},
		{[]int{9, 9, 9, 9}, math.MinInt, frame, true},
		{[]int{9, 9, 9, 9}, math.MaxInt, frame, true},
		{[]int{9, 9, 9, 9}, math.MaxInt - 2, frame, true},
		{[]int{9, 9, 9, 9}, 1 << 32, frame, true},
		{[]int{1, 1, math.MaxInt, math.MaxInt}, 0, frame, true},
		{[]int{math.MaxInt, 1, 0, 0}, 0, none, false},
		{[]int{1, math.MaxInt, 0, 0}, 0, none, false},
		{[]int{math.MaxInt, math.MaxInt, math.MaxInt, math.MaxInt}, 0, none, false},
		{[]int{math.MinInt, 1, 6, 6}, 0, none, false},
		{[]int{1, 1, math.MinInt, 6}, 0, none, false},
		{[]int{1<<32 + 1, 1, 6, 6}, 0, none, false},
		{[]int{1, 1, 1<<32 + 1, 1<<32 + 1}, 0, frame, true},
	} {
		if got, ok := box.Rect(frame, x.list, x.i); got != x.want || ok != x.ok {
			t.Errorf("P5.2: Rect(%v, %v, %d) = %v, %v, not %v, %v", frame, x.list, x.i, got, ok, x.want, x.ok)
		}
	}
}

// number is the one at a place of a list, by the document's words; 0, where there is none.
func number(list []int, i, further int) int {
	if i < 0 || i >= len(list) || len(list)-i <= further {
		return 0
	}
	return list[i+further]
}

// wantRect tells place by place which ones of a small frame a rectangle has.
func wantRect(frame api.Box, list []int, i int) (api.Box, bool) {
	top, left, bottom, right := number(list, i, 0), number(list, i, 1), number(list, i, 2), number(list, i, 3)
	if top < 0 || left < 0 || bottom < 0 || right < 0 {
		return api.Box{}, false
	}
	var has []api.Pos
	for _, p := range places(frame) {
		row, col := p.Row-frame.Top+1, p.Col-frame.Left+1
		if row >= top && (bottom == 0 || row <= bottom) && col >= left && (right == 0 || col <= right) {
			has = append(has, p)
		}
	}
	return bounds(has), len(has) > 0
}

// frames are some small ones: off 0, 0, on all its sides, and without a place.
func frames() []api.Box {
	return []api.Box{
		{}, {Bottom: 3, Right: 2}, {Top: 1, Left: 2, Bottom: 3, Right: 3}, {Top: -2, Left: -3, Bottom: 1, Right: -1},
		{Top: -3, Left: 1, Bottom: -2, Right: 4}, {Top: 2, Left: 2, Bottom: 2, Right: 4}, {Top: 2, Left: 2, Bottom: 4, Right: 2},
		{Top: 3, Left: 1, Bottom: 1, Right: 3}, {Top: 1, Left: 3, Bottom: 3, Right: 1}, {Top: 3, Left: 3, Bottom: -3, Right: -3},
	}
}

func TestRect(t *testing.T) {
	numbers := []int{math.MinInt, -1, 0, 1, 2, 3, 4, 5, math.MaxInt}
	for _, frame := range frames() {
		for _, b := range boxes(numbers) {
			list := []int{77, b.Top, b.Left, b.Bottom, b.Right, -77}
			want, wantOk := wantRect(frame, list, 1)
			if got, ok := box.Rect(frame, list, 1); got != want || ok != wantOk {
				t.Fatalf("P5.2: Rect(%v, %v, 1) = %v, %v, not %v, %v", frame, list, got, ok, want, wantOk)
			}
		}
	}
}

func TestRectAndPlaceAnywhereInAList(t *testing.T) {
	list := []int{2, 1, 3, 2, 0, 1, 2, 2, -1, 1}
	for _, frame := range frames() {
		for length := range len(list) + 1 {
			for _, i := range append([]int{-5, -4, -3, -2, -1, 0, 1, 2, 3, 4, 5, 6, 7, 8, 9, 10, 11, 12}, far...) {
				want, wantOk := wantRect(frame, list[:length], i)
				if got, ok := box.Rect(frame, list[:length], i); got != want || ok != wantOk {
					t.Errorf("P5.2: Rect(%v, %v, %d) = %v, %v, not %v, %v", frame, list[:length], i, got, ok, want, wantOk)
				}
				wantAt := wantPlace(frame, list[:length], i)
				if got := box.Place(frame, list[:length], i); got != wantAt {
					t.Errorf("P5.2: Place(%v, %v, %d) = %v, not %v", frame, list[:length], i, got, wantAt)
				}
			}
		}
	}
}

// Frames at the ends of what an int can tell, and greater than it can.
func TestRectFar(t *testing.T) {
	const least, most = math.MinInt, math.MaxInt
	high := api.Box{Top: most - 4, Left: most - 3, Bottom: most, Right: most}
	low := api.Box{Top: least, Left: least, Bottom: least + 4, Right: least + 3}
	all := api.Box{Top: least, Left: least, Bottom: most, Right: most}
	turned := api.Box{Top: most, Left: most, Bottom: least, Right: least}
	for _, x := range []struct {
		frame api.Box
		list  []int
		want  api.Box
		ok    bool
	}{
		{high, nil, high, true},
		{high, []int{2, 2, 3, 2}, api.Box{Top: most - 3, Left: most - 2, Bottom: most - 1, Right: most - 1}, true},
		{high, []int{4, 3, most, most}, api.Box{Top: most - 1, Left: most - 1, Bottom: most, Right: most}, true},
		{high, []int{5, 1, 9, 9}, api.Box{}, false},
		{high, []int{1, 4, 9, 9}, api.Box{}, false},
		{high, []int{most, most, most, most}, api.Box{}, false},
		{low, nil, low, true},
		{low, []int{2, 2, 3, 2}, api.Box{Top: least + 1, Left: least + 1, Bottom: least + 3, Right: least + 2}, true},
		{low, []int{5, 1, 9, 9}, api.Box{}, false},
		{low, []int{most, 1, most, 1}, api.Box{}, false},
		{all, nil, all, true},
		{all, []int{2, 3}, api.Box{Top: least + 1, Left: least + 2, Bottom: most, Right: most}, true},
		{all, []int{1, 1, 2, 3}, api.Box{Top: least, Left: least, Bottom: least + 2, Right: least + 3}, true},
		{all, []int{most, most, most, most}, api.Box{Top: -2, Left: -2, Bottom: -1, Right: -1}, true},
		{all, []int{3, 1, 2, 1}, api.Box{}, false},
		{turned, nil, api.Box{}, false},
		{turned, []int{1, 1, 1, 1}, api.Box{}, false},
		{api.Box{Top: most, Left: 0, Bottom: least, Right: 5}, nil, api.Box{}, false},
		{api.Box{Top: 0, Left: most, Bottom: 5, Right: least}, []int{1, 1, 1, 1}, api.Box{}, false},
	} {
		if got, ok := box.Rect(x.frame, x.list, 0); got != x.want || ok != x.ok {
			t.Errorf("P5.2: Rect(%v, %v, 0) = %v, %v, not %v, %v", x.frame, x.list, got, ok, x.want, x.ok)
		}
	}
}

func TestPlaceExamples(t *testing.T) {
	frame := api.Box{Top: 2, Left: 3, Bottom: 8, Right: 10}
	for _, x := range []struct {
		list []int
		i    int
		want api.Pos
	}{
		{[]int{99, 0}, 0, api.Pos{Row: 7, Col: 3}},
		{nil, 0, api.Pos{Row: 2, Col: 3}},
		{[]int{}, 0, api.Pos{Row: 2, Col: 3}},
		{[]int{0, 0}, 0, api.Pos{Row: 2, Col: 3}},
		{[]int{1, 1}, 0, api.Pos{Row: 2, Col: 3}},
		{[]int{2, 3}, 0, api.Pos{Row: 3, Col: 5}},
		{[]int{2}, 0, api.Pos{Row: 3, Col: 3}},
		{[]int{0, 2}, 0, api.Pos{Row: 2, Col: 4}},
		{[]int{6, 7}, 0, api.Pos{Row: 7, Col: 9}},
		{[]int{7, 8}, 0, api.Pos{Row: 7, Col: 9}},
		{[]int{1, 99}, 0, api.Pos{Row: 2, Col: 9}},
		{[]int{-1, 2}, 0, api.Pos{Row: 2, Col: 4}},
		{[]int{2, -1}, 0, api.Pos{Row: 3, Col: 3}},
		{[]int{-99, -99}, 0, api.Pos{Row: 2, Col: 3}},
		{[]int{9, 9, 2, 3, 9}, 2, api.Pos{Row: 3, Col: 5}},
		{[]int{9, 9, 2}, 2, api.Pos{Row: 3, Col: 3}},
		{[]int{9, 9, 2}, 3, api.Pos{Row: 2, Col: 3}},
		{[]int{5, 5, 5, 5}, -1, api.Pos{Row: 2, Col: 3}},
		{[]int{5, 5, 5, 5}, -2, api.Pos{Row: 2, Col: 3}},
		{[]int{5, 5, 5, 5}, math.MinInt, api.Pos{Row: 2, Col: 3}},
		{[]int{5, 5, 5, 5}, math.MaxInt, api.Pos{Row: 2, Col: 3}},
		{[]int{5, 5, 5, 5}, 1 << 32, api.Pos{Row: 2, Col: 3}},
		{[]int{math.MaxInt, math.MaxInt}, 0, api.Pos{Row: 7, Col: 9}},
		{[]int{math.MinInt, math.MinInt}, 0, api.Pos{Row: 2, Col: 3}},
		{[]int{1<<32 + 2, -1<<32 + 2}, 0, api.Pos{Row: 7, Col: 3}},
	} {
		if got := box.Place(frame, x.list, x.i); got != x.want {
			t.Errorf("P5.2: Place(%v, %v, %d) = %v, not %v", frame, x.list, x.i, got, x.want)
		}
	}
}

// wantPlace steps through a small frame up to a row and a column.
func wantPlace(frame api.Box, list []int, i int) api.Pos {
	at := api.Pos{Row: frame.Top, Col: frame.Left}
	if len(places(frame)) == 0 {
		return at
	}
	for n := 1; n < number(list, i, 0) && at.Row+1 < frame.Bottom; n++ {
		at.Row++
	}
	for n := 1; n < number(list, i, 1) && at.Col+1 < frame.Right; n++ {
		at.Col++
	}
	return at
}

func TestPlace(t *testing.T) {
	for _, frame := range frames() {
		for _, row := range mixed {
			for _, col := range append([]int{4, 5, 6}, mixed...) {
				list := []int{77, -77, row, col, 77}
				want := wantPlace(frame, list, 2)
				if got := box.Place(frame, list, 2); got != want {
					t.Errorf("P5.2: Place(%v, %v, 2) = %v, not %v", frame, list, got, want)
				}
			}
		}
	}
}

func TestPlaceFar(t *testing.T) {
	const least, most = math.MinInt, math.MaxInt
	high := api.Box{Top: most - 4, Left: most - 3, Bottom: most, Right: most}
	all := api.Box{Top: least, Left: least, Bottom: most, Right: most}
	for _, x := range []struct {
		frame api.Box
		list  []int
		want  api.Pos
	}{
		{high, nil, api.Pos{Row: most - 4, Col: most - 3}},
		{high, []int{2, 2}, api.Pos{Row: most - 3, Col: most - 2}},
		{high, []int{99, most}, api.Pos{Row: most - 1, Col: most - 1}},
		{all, []int{1, 2}, api.Pos{Row: least, Col: least + 1}},
		{all, []int{-1, most}, api.Pos{Row: least, Col: -2}},
		{api.Box{Top: most, Left: most, Bottom: least, Right: least}, []int{2, 2}, api.Pos{Row: most, Col: most}},
		{api.Box{Top: 5, Left: most, Bottom: 9, Right: least}, []int{2, 2}, api.Pos{Row: 5, Col: most}},
		{api.Box{Top: 5, Left: 6, Bottom: 9, Right: 6}, []int{2, 2}, api.Pos{Row: 5, Col: 6}},
		{api.Box{Top: 5, Left: 6, Bottom: 5, Right: 9}, []int{2, 2}, api.Pos{Row: 5, Col: 6}},
	} {
		if got := box.Place(x.frame, x.list, 0); got != x.want {
			t.Errorf("P5.2: Place(%v, %v, 0) = %v, not %v", x.frame, x.list, got, x.want)
		}
	}
}

// What is answered lies within, whatever is handed in.
func TestAnswersLieWithin(t *testing.T) {
	numbers := []int{math.MinInt, -1, 0, 1, 3, math.MaxInt - 1, math.MaxInt}
	for _, frame := range boxes([]int{math.MinInt, -1, 0, 2, math.MaxInt}) {
		for _, b := range boxes(numbers) {
			list := []int{b.Top, b.Left, b.Bottom, b.Right}
			r, ok := box.Rect(frame, list, 0)
			if !ok && r != (api.Box{}) || ok && (box.Empty(r) || box.Meet(frame, r) != r) {
				t.Fatalf("P5.2: Rect(%v, %v, 0) = %v, %v", frame, list, r, ok)
			}
		}
		for _, row := range numbers {
			for _, col := range numbers {
				p := api.Pos{Row: row, Col: col}
				if at := box.Place(frame, []int{row, col}, 0); !box.Empty(frame) && !within(frame, at) {
					t.Fatalf("P5.2: Place(%v, (%d, %d), 0) = %v", frame, row, col, at)
				}
				if at := box.Clamp(frame, p); !box.Empty(frame) && !within(frame, at) {
					t.Fatalf("P5.1: Clamp(%v, %v) = %v", frame, p, at)
				}
			}
		}
		box.Size(frame)
	}
	for _, n := range mixed {
		for _, first := range mixed {
			for _, last := range mixed {
				from, below, ok := box.Span(n, first, last)
				if ok && (from < 0 || below > n || below-from < 2) || !ok && (from != 0 || below != 0) {
					t.Fatalf("P5.2: Span(%d, %d, %d) = %d, %d, %v", n, first, last, from, below, ok)
				}
			}
		}
	}
}

// A list stays as it was, and what lies behind its end isn't of it.
func TestListsStayAsTheyWere(t *testing.T) {
	frame := api.Box{Top: 2, Left: 3, Bottom: 8, Right: 9}
	room := []int{2, 2, 3, 3, -1, 99}
	for n := range len(room) + 1 {
		for i := range len(room) + 1 {
			box.Rect(frame, room[:n], i)
			box.Place(frame, room[:n], i)
		}
	}
	if !slices.Equal(room, []int{2, 2, 3, 3, -1, 99}) {
		t.Errorf("P5.2: a list that was handed in is changed: %v", room)
	}
	if got, ok := box.Rect(frame, room[:2], 0); got != (api.Box{Top: 3, Left: 4, Bottom: 8, Right: 9}) || !ok {
		t.Errorf("P5.2: Rect takes numbers behind the list's end: %v, %v", got, ok)
	}
	if got := box.Place(frame, room[:1], 0); got != (api.Pos{Row: 3, Col: 3}) {
		t.Errorf("P5.2: Place takes numbers behind the list's end: %v", got)
	}
}
