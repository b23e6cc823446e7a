package mode_test

import (
	"math"
	"slices"
	"testing"

	"phosphor/mode"
)

// row is a line of the document's table.
type row struct {
	name   string
	mode   mode.Mode
	value  int
	dec    bool
	number int
	from   int
	begins bool
}

var table = []row{
	{"KAM", mode.KAM, 0, false, 2, 1, false},
	{"IRM", mode.IRM, 1, false, 4, 1, false},
	{"SRM", mode.SRM, 2, false, 12, 1, true},
	{"LNM", mode.LNM, 3, false, 20, 1, false},
	{"CKM", mode.CKM, 4, true, 1, 1, false},
	{"SCNM", mode.SCNM, 5, true, 5, 1, false},
	{"OM", mode.OM, 6, true, 6, 1, false},
	{"AWM", mode.AWM, 7, true, 7, 1, true},
	{"ARM", mode.ARM, 8, true, 8, 1, true},
	{"TCEM", mode.TCEM, 9, true, 25, 2, true},
	{"NRCM", mode.NRCM, 10, true, 42, 2, false},
	{"PCCM", mode.PCCM, 11, true, 64, 3, true},
	{"NKM", mode.NKM, 12, true, 66, 3, false},
	{"BKM", mode.BKM, 13, true, 67, 3, false},
	{"KBUM", mode.KBUM, 14, true, 68, 3, false},
	{"LRMM", mode.LRMM, 15, true, 69, 4, false},
	{"NCSM", mode.NCSM, 16, true, 95, 5, false},
}

const (
	count  = 17
	ours   = 1<<count - 1
	others = ^mode.Modes(ours)
)

// noModes are values that are no modes, those that would be one in fewer bits or as a shift among them.
var noModes = []mode.Mode{
	math.MinInt, math.MinInt + 1, math.MinInt + 7, math.MinInt32, -1 << 32, -1<<32 + 7, -65536, -256, -249, -64, -57, -33, -32, -25, -17, -16, -2, -1,
	17, 18, 23, 31, 32, 33, 39, 63, 64, 71, 95, 255, 256, 263, 65536, 65543, math.MaxInt32, 1 << 32, 1<<32 + 7, math.MaxInt - 1, math.MaxInt,
}

// numbers are all around those of the table, and some far from it.
func numbers() []int {
	list := []int{
		math.MinInt, math.MinInt + 2, math.MinInt32, -1 << 32, -1<<32 + 4, -65536, -65529, -256, -249, 255, 256, 258, 263, 999, 2004, 65535, 65536, 65543,
		math.MaxInt32, 1 << 32, 1<<32 + 2, 1<<32 + 7, math.MaxInt - 1, math.MaxInt,
	}
	for n := -30; n <= 200; n++ {
		list = append(list, n)
	}
	return list
}

func levels() []int {
	list := []int{math.MinInt, math.MinInt + 1, math.MinInt32, -1 << 32, -1<<32 + 5, -256, -251, 60, 61, 65, 255, 256, 257, 261, math.MaxInt32, 1 << 32, 1<<32 + 1, math.MaxInt - 1, math.MaxInt}
	for level := -5; level <= 12; level++ {
		list = append(list, level)
	}
	return list
}

// sets are some sets of modes, with bits of no mode among them.
func sets() []mode.Modes {
	list := []mode.Modes{0, ours, others, math.MaxUint32, mode.Begin(), 0xAAAAAAAA, 0x55555555, 0x80000000, 1 << count, 1<<count | 1}
	for x := range 32 {
		list = append(list, 1<<x, ^mode.Modes(1<<x))
	}
	return list
}

// foundIn is what the document's table has of a number at a level.
func foundIn(dec bool, n, level int) (row, bool) {
	for _, r := range table {
		if r.dec == dec && r.number == n && level >= r.from {
			return r, true
		}
	}
	return row{}, false
}

func TestValues(t *testing.T) {
	if len(table) != count {
		t.Fatalf("%d modes", len(table))
	}
	for i, r := range table {
		if int(r.mode) != r.value || r.value != i {
			t.Errorf("P17.1: %s is %d, not %d", r.name, r.mode, r.value)
		}
	}
}

func TestBegin(t *testing.T) {
	var want mode.Modes
	for _, r := range table {
		if r.begins {
			want |= 1 << r.value
		}
		if got := mode.Begin().Has(r.mode); got != r.begins {
			t.Errorf("P17.1: Begin has %s: %v", r.name, got)
		}
	}
	if got := mode.Begin(); got != want || got != 2948 {
		t.Errorf("P17.1: Begin = %d, not %d", got, want)
	}
}

func TestFind(t *testing.T) {
	found := 0
	for _, dec := range []bool{false, true} {
		for _, n := range numbers() {
			for _, level := range levels() {
				want, there := foundIn(dec, n, level)
				if there {
					found++
				}
				if x, ok := mode.Find(dec, n, level); int(x) != want.value || ok != there {
					t.Errorf("P17.1: Find(%v, %d, %d) = %d, %v, not %d, %v", dec, n, level, x, ok, want.value, there)
				}
			}
		}
	}
	if found == 0 {
		t.Error("P17.1: nothing was found")
	}
}

func TestFindAtTheLevelFromWhichOnItIsThere(t *testing.T) {
	for _, r := range table {
		for level := -1; level <= 7; level++ {
			x, ok := mode.Find(r.dec, r.number, level)
			if there := level >= r.from; ok != there || there && x != r.mode || !there && x != 0 {
				t.Errorf("P17.1: %s at level %d: %d, %v", r.name, level, x, ok)
			}
			if x, ok := mode.Find(!r.dec, r.number, level); ok && x == r.mode {
				t.Errorf("P17.1: %s is found among the other numbers", r.name)
			}
		}
	}
}

func TestNumber(t *testing.T) {
	for _, r := range table {
		if dec, n := mode.Number(r.mode); dec != r.dec || n != r.number {
			t.Errorf("P17.1: Number(%s) = %v, %d", r.name, dec, n)
		}
		dec, n := mode.Number(r.mode)
		if x, ok := mode.Find(dec, n, 5); x != r.mode || !ok {
			t.Errorf("P17.1: the number of %s finds %d, %v", r.name, x, ok)
		}
	}
	for _, x := range noModes {
		if dec, n := mode.Number(x); dec || n != 0 {
			t.Errorf("P17.1: Number(%d) = %v, %d", x, dec, n)
		}
	}
}

func TestHas(t *testing.T) {
	check := func(m mode.Modes) {
		for _, r := range table {
			if got, want := m.Has(r.mode), m>>r.value&1 == 1; got != want {
				t.Errorf("P17.2: %b has %s: %v", m, r.name, got)
			}
		}
	}
	for m := mode.Modes(0); m <= ours; m++ {
		check(m)
	}
	for _, m := range sets() {
		check(m)
		for _, x := range noModes {
			if m.Has(x) {
				t.Errorf("P17.2: %b has %d, which is no mode", m, x)
			}
		}
	}
}

func TestWithTouchesNoOtherMode(t *testing.T) {
	check := func(m mode.Modes) {
		for _, r := range table {
			bit := mode.Modes(1) << r.value
			if got := m.With(r.mode, true); got != m|bit {
				t.Errorf("P17.2: %b with %s = %b", m, r.name, got)
			}
			if got := m.With(r.mode, false); got != m&^bit {
				t.Errorf("P17.2: %b without %s = %b", m, r.name, got)
			}
		}
	}
	for m := mode.Modes(0); m <= ours; m++ {
		check(m)
	}
	for _, m := range sets() {
		check(m)
	}
}

func TestWithAsHasTellsIt(t *testing.T) {
	for _, m := range sets() {
		for _, r := range table {
			for _, on := range []bool{false, true} {
				was := m
				got := m.With(r.mode, on)
				if m != was {
					t.Fatalf("P17.2: With changes its receiver")
				}
				if got.Has(r.mode) != on {
					t.Errorf("P17.2: %b with %s %v has it: %v", m, r.name, on, !on)
				}
				for _, other := range table {
					if other.mode != r.mode && got.Has(other.mode) != m.Has(other.mode) {
						t.Errorf("P17.2: %s touches %s", r.name, other.name)
					}
				}
				if got.With(r.mode, m.Has(r.mode)) != m {
					t.Errorf("P17.2: %b with %s %v isn't undone", m, r.name, on)
				}
			}
		}
	}
}

func TestWithOfNoMode(t *testing.T) {
	for _, m := range sets() {
		for _, x := range noModes {
			for _, on := range []bool{false, true} {
				if got := m.With(x, on); got != m {
					t.Errorf("P17.2: %b with %d, which is no mode, %v = %b", m, x, on, got)
				}
			}
		}
	}
}

func TestClear(t *testing.T) {
	for m := mode.Modes(0); m <= ours; m++ {
		if got := m.Clear(); got != m {
			t.Errorf("P17.2: Clear of %b = %b", m, got)
		}
		if got := (m | others).Clear(); got != m {
			t.Errorf("P17.2: Clear of %b = %b", m|others, got)
		}
	}
	for bit := count; bit < 32; bit++ {
		if got := (1<<bit | mode.Begin()).Clear(); got != mode.Begin() {
			t.Errorf("P17.2: Clear leaves the bit %d: %b", bit, got)
		}
	}
}

// known are the ANSI numbers of which 4 is told.
var known = []int{1, 5, 7, 10, 11, 13, 14, 15, 16, 17, 18, 19}

// asked is what the document has told of a number.
func asked(m mode.Modes, dec bool, n, level int) int {
	if r, there := foundIn(dec, n, level); there {
		return 2 - int(m>>r.value&1)
	}
	if !dec && slices.Contains(known, n) {
		return 4
	}
	return 0
}

func TestAsk(t *testing.T) {
	told := [5]int{}
	for _, m := range []mode.Modes{0, ours, others, math.MaxUint32, mode.Begin(), 0xAAAAAAAA, 0x55555555} {
		for _, dec := range []bool{false, true} {
			for _, n := range numbers() {
				for _, level := range levels() {
					got, want := m.Ask(dec, n, level), asked(m, dec, n, level)
					if got != want {
						t.Errorf("P17.3: of %b, Ask(%v, %d, %d) = %d, not %d", m, dec, n, level, got, want)
					}
					told[want]++
				}
			}
		}
	}
	if told[0] == 0 || told[1] == 0 || told[2] == 0 || told[4] == 0 {
		t.Errorf("P17.3: not all answers came: %v", told)
	}
}

func TestAskOfEachMode(t *testing.T) {
	for _, m := range sets() {
		for _, r := range table {
			if got := m.With(r.mode, true).Ask(r.dec, r.number, r.from); got != 1 {
				t.Errorf("P17.3: of %s, which is set, %d is told", r.name, got)
			}
			if got := m.With(r.mode, false).Ask(r.dec, r.number, r.from); got != 2 {
				t.Errorf("P17.3: of %s, which isn't set, %d is told", r.name, got)
			}
			if got := m.With(r.mode, true).Ask(r.dec, r.number, r.from-1); got != 0 {
				t.Errorf("P17.3: of %s, which isn't there, %d is told", r.name, got)
			}
		}
	}
}

func TestExamples(t *testing.T) {
	if x, ok := mode.Find(true, 69, 3); x != 0 || ok {
		t.Errorf("P17.1: Find(true, 69, 3) = %d, %v", x, ok)
	}
	if x, ok := mode.Find(true, 69, 4); x != mode.LRMM || !ok {
		t.Errorf("P17.1: Find(true, 69, 4) = %d, %v", x, ok)
	}
	for _, x := range []struct {
		dec            bool
		n, level, want int
	}{
		{true, 7, 1, 1}, {false, 4, 1, 2}, {false, 1, 5, 4}, {true, 99, 5, 0},
		{false, 12, 1, 1}, {true, 12, 5, 0}, {true, 4, 5, 0}, {true, 10, 5, 0}, {false, 7, 0, 4}, {false, 4, 0, 0}, {false, 0, 5, 0}, {false, 3, 5, 0},
		{true, 95, 4, 0}, {true, 95, 5, 2}, {true, 25, 1, 0}, {true, 25, 2, 1}, {true, 64, 3, 1}, {true, 64, 2, 0}, {false, 21, 5, 0}, {false, 19, -9, 4},
	} {
		if got := mode.Begin().Ask(x.dec, x.n, x.level); got != x.want {
			t.Errorf("P17.3: Ask(%v, %d, %d) = %d, not %d", x.dec, x.n, x.level, got, x.want)
		}
	}
}
