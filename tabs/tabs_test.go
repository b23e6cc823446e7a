package tabs_test

import (
	"math"
	"math/rand"
	"slices"
	"strconv"
	"strings"
	"testing"

	"phosphor/api"
	"phosphor/tabs"
)

// far are numbers that are no columns, and would overflow or come round to one.
var far = []int{
	math.MinInt, math.MinInt + 1, math.MinInt32, -1 << 32, -1<<32 + 8, -65536, -501, -500, -64, -9, -8,
	501, 512, 513, 576, 65536, 65536 + 8, math.MaxInt32, 1 << 32, 1<<32 + 8, math.MaxInt - 1, math.MaxInt,
}

// model is what the document says stops are: columns, and whether there is a stop.
type model []bool

func eighth(col int) bool {
	return col == 8 || col > 8 && eighth(col-8)
}

func (m model) resized(cols int) model {
	var other model
	for col := 0; col < cols && col < 500; col++ {
		if col < len(m) {
			other = append(other, m[col])
		} else {
			other = append(other, eighth(col))
		}
	}
	return other
}

func (m model) has(col int) bool {
	return col >= 0 && col < len(m) && m[col]
}

func (m model) put(col int, stop bool) {
	if col >= 0 && col < len(m) {
		m[col] = stop
	}
}

func (m model) list() []int {
	var list []int
	for col, stop := range m {
		if stop {
			list = append(list, col)
		}
	}
	return list
}

func (m model) report() string {
	var texts []string
	for _, col := range m.list() {
		texts = append(texts, strconv.Itoa(col+1))
	}
	return strings.Join(texts, "/")
}

func (m model) nearest(col int) int {
	if len(m) == 0 || col < 0 {
		return 0
	}
	return min(col, len(m)-1)
}

func (m model) next(col, n int) int {
	if n < 1 {
		return m.nearest(col)
	}
	var right []int
	for _, at := range m.list() {
		if at > col {
			right = append(right, at)
		}
	}
	if len(right) < n {
		return m.nearest(math.MaxInt)
	}
	return right[n-1]
}

func (m model) back(col, n int) int {
	if n < 1 {
		return m.nearest(col)
	}
	var left []int
	for _, at := range m.list() {
		if at < col {
			left = append(left, at)
		}
	}
	if len(left) < n {
		return 0
	}
	return left[len(left)-n]
}

// check holds all that stops can be asked for, but for moves, against a model.
func check(t *testing.T, what string, s *tabs.Stops, m model) {
	t.Helper()
	if s.Cols() != len(m) {
		t.Fatalf("P6.1: %s: %d columns, not %d", what, s.Cols(), len(m))
	}
	if got := s.List(); !slices.Equal(got, m.list()) {
		t.Fatalf("P6.1: %s: the stops are %v, not %v", what, got, m.list())
	}
	if got := s.Report(); got != m.report() {
		t.Fatalf("P6.3: %s: Report %q, not %q", what, got, m.report())
	}
	for col := -3; col < len(m)+3; col++ {
		if got := s.Has(col); got != m.has(col) {
			t.Fatalf("P6.1: %s: Has(%d) = %v", what, col, got)
		}
	}
	for _, col := range far {
		if s.Has(col) != m.has(col) {
			t.Fatalf("P6.1: %s: Has(%d) = %v", what, col, s.Has(col))
		}
	}
}

func checkMoves(t *testing.T, what string, s *tabs.Stops, m model) {
	t.Helper()
	columns := slices.Clone(far)
	for col := -3; col < len(m)+3; col++ {
		columns = append(columns, col)
	}
	for _, col := range columns {
		for _, n := range []int{math.MinInt, -1 << 32, -1, 0, 1, 2, 3, 4, 5, 7, 62, 63, 499, 500, 501, 1 << 32, 1<<32 + 1, math.MaxInt} {
			if got, want := s.Next(col, n), m.next(col, n); got != want {
				t.Fatalf("P6.2: %s: Next(%d, %d) = %d, not %d", what, col, n, got, want)
			}
			if got, want := s.Back(col, n), m.back(col, n); got != want {
				t.Fatalf("P6.2: %s: Back(%d, %d) = %d, not %d", what, col, n, got, want)
			}
		}
	}
	check(t, what+", behind moves", s, m)
}

// made are stops at just these columns.
func made(cols int, at ...int) (*tabs.Stops, model) {
	s, m := tabs.New(cols), model{}.resized(cols)
	s.ClearAll()
	for col := range m {
		m[col] = false
	}
	for _, col := range at {
		s.Set(col)
		m.put(col, true)
	}
	return s, m
}

func TestNew(t *testing.T) {
	for cols := -3; cols <= 510; cols++ {
		check(t, "New("+strconv.Itoa(cols)+")", tabs.New(cols), model{}.resized(cols))
	}
	for _, cols := range far {
		check(t, "New("+strconv.Itoa(cols)+")", tabs.New(cols), model{}.resized(cols))
	}
	for _, x := range []struct {
		cols, has int
		list      []int
	}{
		{20, 20, []int{8, 16}}, {0, 0, nil}, {-1, 0, nil}, {math.MinInt, 0, nil}, {1, 1, nil}, {8, 8, nil}, {9, 9, []int{8}}, {16, 16, []int{8}}, {17, 17, []int{8, 16}},
		{25, 25, []int{8, 16, 24}}, {66, 66, []int{8, 16, 24, 32, 40, 48, 56, 64}},
	} {
		s := tabs.New(x.cols)
		if s.Cols() != x.has || !slices.Equal(s.List(), x.list) {
			t.Errorf("P6.1: New(%d): %d columns, stops %v", x.cols, s.Cols(), s.List())
		}
	}
	for _, cols := range []int{500, 501, 1000, math.MaxInt} {
		s := tabs.New(cols)
		if list := s.List(); s.Cols() != 500 || len(list) != 62 || list[61] != 496 || s.Has(500) || s.Has(504) {
			t.Errorf("P6.1: New(%d): %d columns, stops %v", cols, s.Cols(), list)
		}
	}
}

func TestExamples(t *testing.T) {
	s := tabs.New(20)
	if list := s.List(); !slices.Equal(list, []int{8, 16}) {
		t.Errorf("P6.1: List = %v", list)
	}
	for _, x := range []struct{ col, n, next, back int }{
		{8, 1, 16, 0}, {16, 1, 19, 8}, {8, 2, 19, 0}, {0, 1, 8, 0}, {0, 2, 16, 0}, {0, 3, 19, 0}, {7, 1, 8, 0}, {9, 1, 16, 8},
		{15, 1, 16, 8}, {17, 1, 19, 16}, {17, 2, 19, 8}, {17, 3, 19, 0}, {19, 1, 19, 16}, {99, 1, 19, 16}, {-5, 1, 8, 0},
		{5, 0, 5, 5}, {5, -1, 5, 5}, {-5, 0, 0, 0}, {99, 0, 19, 19}, {20, -7, 19, 19}, {19, 0, 19, 19},
		{math.MaxInt, 1, 19, 16}, {math.MinInt, 1, 8, 0}, {math.MaxInt, 2, 19, 8}, {math.MinInt, 2, 16, 0},
		{math.MaxInt, math.MinInt, 19, 19}, {math.MinInt, math.MinInt, 0, 0}, {10, math.MaxInt, 19, 0},
	} {
		if got := s.Next(x.col, x.n); got != x.next {
			t.Errorf("P6.2: Next(%d, %d) = %d, not %d", x.col, x.n, got, x.next)
		}
		if got := s.Back(x.col, x.n); got != x.back {
			t.Errorf("P6.2: Back(%d, %d) = %d, not %d", x.col, x.n, got, x.back)
		}
	}
	if got := s.Report(); got != "9/17" {
		t.Errorf("P6.3: Report = %q", got)
	}
	if e := s.Restore("3/99/0"); e != api.OK || !slices.Equal(s.List(), []int{2}) {
		t.Errorf("P6.3: Restore: %d, stops %v", e, s.List())
	}
	if e := s.Restore("3//4"); e != api.ErrForm || !slices.Equal(s.List(), []int{2}) {
		t.Errorf("P6.3: Restore: %d, stops %v", e, s.List())
	}
}

func TestZeroStops(t *testing.T) {
	var s tabs.Stops
	checkMoves(t, "the zero Stops", &s, nil)
	s.Set(0)
	s.Set(8)
	s.Clear(0)
	s.ClearAll()
	if e := s.Restore("1/9"); e != api.OK {
		t.Errorf("P6.3: Restore in the zero Stops: %d", e)
	}
	if e := s.Restore("1/"); e != api.ErrForm {
		t.Errorf("P6.3: Restore in the zero Stops: %d", e)
	}
	checkMoves(t, "the zero Stops, asked for much", &s, nil)
	check(t, "a Copy of the zero Stops", s.Copy(), nil)
	s.Resize(20)
	checkMoves(t, "the zero Stops, resized", &s, model{}.resized(20))
}

func TestSetAndClear(t *testing.T) {
	for _, cols := range []int{0, 1, 8, 20, 64, 65, 128, 129, 499, 500} {
		what := strconv.Itoa(cols) + " columns"
		for _, col := range append([]int{-2, -1, 0, 1, 7, 8, 9, 19, 20, 31, 32, 33, 62, 63, 64, 65, 127, 128, 129, 255, 256, 498, 499, 500, 501, 511}, far...) {
			s, m := tabs.New(cols), model{}.resized(cols)
			s.Set(col)
			m.put(col, true)
			check(t, what+", Set", s, m)
			s.Set(col)
			check(t, what+", Set twice", s, m)
			s.Clear(col)
			m.put(col, false)
			check(t, what+", Clear", s, m)
			s.Clear(col)
			check(t, what+", Clear twice", s, m)
			s.Resize(500)
			check(t, what+", and then resized", s, m.resized(500))
		}
	}
}

func TestClearAll(t *testing.T) {
	for _, cols := range []int{0, 1, 20, 64, 200, 500} {
		s, m := made(cols)
		checkMoves(t, "ClearAll", s, m)
		s.Set(0)
		s.Set(cols - 1)
		m.put(0, true)
		m.put(cols-1, true)
		checkMoves(t, "ClearAll, and Set", s, m)
		s.ClearAll()
		m.put(0, false)
		m.put(cols-1, false)
		check(t, "ClearAll twice", s, m)
		s.Resize(500)
		check(t, "ClearAll, and then resized", s, m.resized(500))
	}
}

func TestNextAndBack(t *testing.T) {
	for _, cols := range []int{0, 1, 2, 8, 9, 20, 65, 500} {
		checkMoves(t, "New", tabs.New(cols), model{}.resized(cols))
		for _, at := range [][]int{{}, {0}, {cols - 1}, {0, cols - 1}, {0, 1, 2, 3}, {1, 5, 6, 17, 63, 64, 65, 128, 400}, {62, 63}, {64}, {cols - 2, cols - 1}} {
			s, m := made(cols, at...)
			checkMoves(t, "stops at "+m.report(), s, m)
		}
		s, m := made(cols)
		for col := range m {
			s.Set(col)
			m.put(col, true)
		}
		checkMoves(t, "stops everywhere", s, m)
	}
}

func TestResize(t *testing.T) {
	sizes := []int{0, 1, 8, 9, 15, 16, 17, 18, 20, 63, 64, 65, 100, 128, 129, 499, 500}
	for _, first := range sizes {
		for _, second := range append(slices.Concat(sizes, []int{-1, 501}), far...) {
			s, m := tabs.New(first), model{}.resized(first)
			for col := range first {
				if col%5 == 3 || col == first-1 {
					s.Set(col)
					m.put(col, true)
				} else if col%3 == 2 {
					s.Clear(col)
					m.put(col, false)
				}
			}
			what := strconv.Itoa(first) + " columns, then " + strconv.Itoa(second)
			s.Resize(second)
			m = m.resized(second)
			check(t, what, s, m)
			for _, third := range []int{20, 500} {
				c := s.Copy()
				c.Resize(third)
				check(t, what+", then "+strconv.Itoa(third), c, m.resized(third))
			}
		}
	}
}

// What was in columns that went doesn't come again with them.
func TestResizeForgets(t *testing.T) {
	s := tabs.New(40)
	s.Set(13)
	s.Set(5)
	s.Clear(16)
	s.Clear(8)
	s.Resize(10)
	if got := s.Report(); got != "6" {
		t.Errorf("P6.1: Resize to less: %q", got)
	}
	s.Resize(40)
	if got := s.Report(); got != "6/17/25/33" {
		t.Errorf("P6.1: Resize to more: %q", got)
	}
	s.Resize(0)
	s.Resize(20)
	if got := s.Report(); got != "9/17" {
		t.Errorf("P6.1: Resize to none, and again to some: %q", got)
	}
}

// told reads a report by the document's words.
func told(cols int, report string) (model, bool) {
	m := make(model, cols)
	if report == "" {
		return m, true
	}
	for _, digits := range strings.Split(report, "/") {
		if digits == "" || strings.Trim(digits, "0123456789") != "" {
			return nil, false
		}
		if n, err := strconv.Atoi(digits); err == nil {
			m.put(n-1, true)
		}
	}
	return m, true
}

func checkRestore(t *testing.T, cols int, report string) {
	t.Helper()
	s, m := made(cols, 0, 3, 17, 63, 64)
	want, ok := told(cols, report)
	e := s.Restore(report)
	if !ok {
		if e != api.ErrForm {
			t.Fatalf("P6.3: Restore(%q) = %d", report, e)
		}
		check(t, "a wrong report", s, m)
		return
	}
	if e != api.OK {
		t.Fatalf("P6.3: Restore(%q) = %d", report, e)
	}
	check(t, "Restore of a report", s, want)
}

func TestRestoreShortTexts(t *testing.T) {
	list := []string{""}
	for done, length := 0, 0; length <= 5; length++ {
		end := len(list)
		for _, s := range list[done:end] {
			for _, cols := range []int{0, 1, 20} {
				checkRestore(t, cols, s)
			}
			for _, c := range []string{"0", "1", "9", "/", ";"} {
				list = append(list, s+c)
			}
		}
		done = end
	}
}

func TestRestoreEveryByte(t *testing.T) {
	for c := range 256 {
		b := string([]byte{byte(c)})
		for _, s := range []string{b, "1" + b, b + "1", "1/" + b, b + "/2", "1/" + b + "2", "4" + b + "/2", "12/" + b + "/2", "99999" + b, "99999/7" + b + "7"} {
			checkRestore(t, 20, s)
		}
	}
}

func TestRestoreOthers(t *testing.T) {
	for _, s := range []string{
		"", "0", "1", "20", "21", "19/20/21/22", "17/9", "9/9/9", "009/00017", "0/0/0", "3/99/0", "500", "501", "499/500/501/502", "64/65/66", "63/127/128/129/256/257",
		"65536", "65537", "65545", "4294967297", "4294967305", "18446744073709551616", "18446744073709551617", "18446744073709551625", "9223372036854775807", "9223372036854775809",
		"1/18446744073709551617/2", strings.Repeat("0", 5000) + "7", strings.Repeat("9", 5000), strings.Repeat("1", 5000) + "/4", strings.Repeat("7/", 5000) + "8",
		"/", "//", "3/", "/3", "3//4", "3/4/", "/3/4", "3/4//", strings.Repeat("7/", 5000), " ", " 3", "3 ", "3/ 4", "3 /4", "-3", "+3", "3;4", "3,4", "3:4", "0x3", "3.0", "1_0", "1e1", "٣", "３", "3／4", "\x00", "3\x00", "3/\xff",
	} {
		for _, cols := range []int{0, 1, 19, 20, 21, 64, 65, 129, 499, 500} {
			checkRestore(t, cols, s)
		}
	}
}

// What is wrong behind much that is right leaves all as it was, too.
func TestRestoreOfAWrongReportChangesNothing(t *testing.T) {
	for _, s := range []string{"3/4/5/", "3/4/5/x", "3/4/5//6", "1/2/3/4/5/6/7/8/9/10/11/12/-13", "9x", "/9", "x"} {
		for _, cols := range []int{0, 20, 500} {
			stops := tabs.New(cols)
			stops.Set(1)
			m := model{}.resized(cols)
			m.put(1, true)
			if e := stops.Restore(s); e != api.ErrForm {
				t.Errorf("P6.3: Restore(%q) = %d", s, e)
			}
			check(t, "Restore of "+s, stops, m)
		}
	}
}

func random(rnd *rand.Rand, cols int) (*tabs.Stops, model) {
	var at []int
	for range rnd.Intn(40) {
		at = append(at, rnd.Intn(cols+1))
	}
	return made(cols, at...)
}

func TestReportIsRestored(t *testing.T) {
	rnd := rand.New(rand.NewSource(61))
	for range 2000 {
		cols := rnd.Intn(501)
		s, m := random(rnd, cols)
		other, _ := random(rnd, cols)
		report := s.Report()
		for _, into := range []*tabs.Stops{other, tabs.New(cols), s} {
			if e := into.Restore(report); e != api.OK {
				t.Fatalf("P6.3: Restore(%q) = %d", report, e)
			}
			check(t, "a report brought back", into, m)
		}
		if again := other.Report(); again != report {
			t.Fatalf("P6.3: %q comes back as %q", report, again)
		}
	}
	s, m := made(500)
	for col := range m {
		s.Set(col)
		m.put(col, true)
	}
	into := tabs.New(500)
	if e := into.Restore(s.Report()); e != api.OK {
		t.Errorf("P6.3: Restore of all columns = %d", e)
	}
	check(t, "all columns brought back", into, m)
}

// Any calls, one behind the other, and copies that go on apart.
func TestAnyCalls(t *testing.T) {
	rnd := rand.New(rand.NewSource(62))
	s, m := tabs.New(80), model{}.resized(80)
	for step := range 20000 {
		col := rnd.Intn(530) - 15
		switch rnd.Intn(24) {
		default:
			s.Set(col)
			m.put(col, true)
		case 0, 1, 2, 3, 4, 5, 6:
			s.Clear(col)
			m.put(col, false)
		case 7, 8:
			s.Resize(col)
			m = m.resized(col)
		case 9:
			if rnd.Intn(20) == 0 {
				s.ClearAll()
				m = make(model, len(m))
			}
		case 10:
			report := strconv.Itoa(rnd.Intn(90)) + "/" + strconv.Itoa(rnd.Intn(600))
			s.Restore(report)
			m, _ = told(len(m), report)
		case 11:
			s.Restore("5/6/" + strconv.Itoa(-1-rnd.Intn(5)))
		case 12:
			old := s
			s = old.Copy()
			old.ClearAll()
			old.Set(col)
			old.Resize(77)
		}
		check(t, "step "+strconv.Itoa(step), s, m)
		n := rnd.Intn(8) - 1
		if got, want := s.Next(col, n), m.next(col, n); got != want {
			t.Fatalf("P6.2: step %d: Next(%d, %d) = %d, not %d", step, col, n, got, want)
		}
		if got, want := s.Back(col, n), m.back(col, n); got != want {
			t.Fatalf("P6.2: step %d: Back(%d, %d) = %d, not %d", step, col, n, got, want)
		}
	}
}

func TestCopy(t *testing.T) {
	for _, cols := range []int{0, 1, 20, 64, 65, 500} {
		s, m := made(cols, 0, 5, 63, 64, cols-1)
		c := s.Copy()
		if c == s {
			t.Fatalf("P6.4: Copy answers the same stops")
		}
		checkMoves(t, "a Copy", c, m)
		c.Set(2)
		c.Set(400)
		c.Clear(5)
		check(t, "stops whose Copy is changed", s, m)
		c.ClearAll()
		check(t, "stops whose Copy is cleared", s, m)
		c.Restore("3/4")
		check(t, "stops whose Copy is restored", s, m)
		c.Resize(3)
		check(t, "stops whose Copy is resized", s, m)
		c = s.Copy()
		s.ClearAll()
		s.Resize(40)
		s.Set(39)
		check(t, "a Copy of stops that are changed", c, m)
	}
}

func TestStopsShareNoMemory(t *testing.T) {
	a, b := tabs.New(20), tabs.New(20)
	a.Set(3)
	a.Clear(8)
	check(t, "other stops", b, model{}.resized(20))
	check(t, "new stops", tabs.New(20), model{}.resized(20))
}

func TestListsAreNewMemory(t *testing.T) {
	s, m := made(200, 3, 8, 77)
	first, second := s.List(), s.List()
	first = first[:cap(first)]
	for i := range first {
		first[i] = 99
	}
	if !slices.Equal(second, []int{3, 8, 77}) {
		t.Errorf("P6.4: answers of List share memory: %v", second)
	}
	check(t, "stops whose List is changed", s, m)
	s.ClearAll()
	s.Set(5)
	if !slices.Equal(second, []int{3, 8, 77}) {
		t.Errorf("P6.4: what is done with stops shows in an answer: %v", second)
	}
}
