package cell_test

import (
	"math"
	"math/rand"
	"slices"
	"testing"

	"phosphor/api"
	"phosphor/cell"
)

var (
	plain  = api.Cell{Glyph: 'a'}
	other  = api.Cell{Glyph: 'b'}
	strong = api.Cell{Glyph: 'A', Rend: api.Bold, Kept: true}
)

func times(n int, c api.Cell) []api.Cell {
	row := make([]api.Cell, n)
	for i := range row {
		row[i] = c
	}
	return row
}

// someRow is a row of cells that are often alike, with all values of their fields now and then.
func someRow(rnd *rand.Rand) []api.Cell {
	var row []api.Cell
	for range rnd.Intn(12) {
		c := api.Cell{Glyph: rune(rnd.Intn(3)), Kept: rnd.Intn(3) == 0}
		if rnd.Intn(4) == 0 {
			c.Glyph, c.Rend = rune(rnd.Uint32()), api.Rend(rnd.Intn(256))
		}
		count := 1 + rnd.Intn(3)
		if rnd.Intn(8) == 0 {
			count = 250 + rnd.Intn(300)
		}
		row = append(row, times(count, c)...)
	}
	return row
}

func TestErased(t *testing.T) {
	if c := cell.Erased(); c != (api.Cell{Glyph: 32, Rend: 0, Kept: false}) {
		t.Errorf("P2.1: Erased = %v", c)
	}
}

func TestWeight(t *testing.T) {
	for _, x := range []struct {
		c    api.Cell
		want int
	}{
		{strong, 197},
		{api.Cell{}, 0},
		{api.Cell{Kept: true}, 4},
		{api.Cell{Glyph: 32}, 32},
		{api.Cell{Glyph: 'a', Rend: api.Bold}, 97 + 128},
		{api.Cell{Glyph: 'a', Rend: api.Blink}, 97 + 64},
		{api.Cell{Glyph: 'a', Rend: api.Reverse}, 97 + 32},
		{api.Cell{Glyph: 'a', Rend: api.Under}, 97 + 16},
		{api.Cell{Glyph: 'a', Rend: api.Hidden}, 97 + 8},
		{api.Cell{Glyph: 'a', Rend: 224}, 97},
		{api.Cell{Glyph: 'a', Rend: 255, Kept: true}, 97 + 248 + 4},
		{api.Cell{Glyph: 0x2500}, 0x2500},
		{api.Cell{Glyph: 0xFFFF}, 0xFFFF},
		{api.Cell{Glyph: 0xFFFF, Rend: 255, Kept: true}, 0xFFFF + 252},
		{api.Cell{Glyph: 0x10000}, 0},
		{api.Cell{Glyph: 0x1F600}, 0xF600},
		{api.Cell{Glyph: -1}, 0xFFFF},
		{api.Cell{Glyph: -65536, Kept: true}, 4},
		{api.Cell{Glyph: math.MinInt32}, 0},
		{api.Cell{Glyph: math.MinInt32 + 7}, 7},
		{api.Cell{Glyph: math.MaxInt32}, 0xFFFF},
	} {
		if got := cell.Weight(x.c); got != x.want {
			t.Errorf("P2.1: Weight(%v) = %d, not %d", x.c, got, x.want)
		}
	}
}

func TestSum(t *testing.T) {
	for _, x := range []struct {
		rows          [][]api.Cell
		sum, negative int
	}{
		{nil, 0, 0},
		{[][]api.Cell{nil}, 0, 0},
		{[][]api.Cell{nil, {}, nil}, 0, 0},
		{[][]api.Cell{{strong}}, 197, 65339},
		{[][]api.Cell{{strong, strong}}, 394, 65142},
		{[][]api.Cell{{strong}, {strong}}, 394, 65142},
		{[][]api.Cell{{strong}, nil, {plain, other}}, 197 + 97 + 98, 65536 - 392},
		{[][]api.Cell{{{Glyph: 0xFFFF}}}, 65535, 1},
		{[][]api.Cell{{{Glyph: 0xFFFF}, {Glyph: 1}}}, 0, 0},
		{[][]api.Cell{{{Glyph: 0xFFFF, Kept: true}}}, 3, 65533},
		{[][]api.Cell{{{Glyph: 0x8000}}, {{Glyph: 0x8000}}}, 0, 0},
		{[][]api.Cell{times(65536, api.Cell{Glyph: 0xFFFF})}, 0, 0},
		{[][]api.Cell{times(70000, api.Cell{Glyph: 0xFFFF, Rend: 255, Kept: true})}, 70000 * (0xFFFF + 252) % 65536, 65536 - 70000*(0xFFFF+252)%65536},
	} {
		if got := cell.Sum(x.rows...); got != x.sum {
			t.Errorf("P2.2: Sum = %d, not %d", got, x.sum)
		}
		if got := cell.Negated(x.rows...); got != x.negative {
			t.Errorf("P2.2: Negated = %d, not %d", got, x.negative)
		}
	}
}

func TestSumAndNegated(t *testing.T) {
	rnd := rand.New(rand.NewSource(22))
	for range 500 {
		one, two := someRow(rnd), someRow(rnd)
		want := 0
		for _, c := range slices.Concat(one, two) {
			want += cell.Weight(c)
		}
		want %= 65536
		wasOne, wasTwo := slices.Clone(one), slices.Clone(two)
		together := cell.Sum(one, two)
		if together != want || cell.Sum(slices.Concat(one, two)) != want {
			t.Fatalf("P2.2: Sum = %d, %d, not %d", together, cell.Sum(slices.Concat(one, two)), want)
		}
		if parts := (cell.Sum(one) + cell.Sum(two)) % 65536; parts != want {
			t.Fatalf("P2.2: parts add up to %d, not %d", parts, want)
		}
		n := cell.Negated(one, two)
		if !slices.Equal(one, wasOne) || !slices.Equal(two, wasTwo) {
			t.Fatalf("P2.4: Sum or Negated changes a row that was handed in")
		}
		if n < 0 || n > 65535 || (n+together)%65536 != 0 {
			t.Fatalf("P2.2: Negated = %d of a sum of %d", n, together)
		}
	}
}

func TestEncode(t *testing.T) {
	for _, x := range []struct {
		name string
		row  []api.Cell
		want []byte
	}{
		{"none", nil, nil},
		{"no cells", []api.Cell{}, nil},
		{"one", []api.Cell{plain}, []byte{1, 0, 0, 0, 97, 0, 0}},
		{"the example", []api.Cell{plain, plain, other}, []byte{2, 0, 0, 0, 97, 0, 0, 1, 0, 0, 0, 98, 0, 0}},
		{"apart", []api.Cell{plain, other, plain}, []byte{1, 0, 0, 0, 97, 0, 0, 1, 0, 0, 0, 98, 0, 0, 1, 0, 0, 0, 97, 0, 0}},
		{"the zero cell", make([]api.Cell, 3), []byte{3, 0, 0, 0, 0, 0, 0}},
		{"unlike renditions", []api.Cell{plain, {Glyph: 'a', Rend: 1}}, []byte{1, 0, 0, 0, 97, 0, 0, 1, 0, 0, 0, 97, 1, 0}},
		{"renditions unlike in bits that are none", []api.Cell{{Rend: 31}, {Rend: 255}, {Rend: 255}}, []byte{1, 0, 0, 0, 0, 31, 0, 2, 0, 0, 0, 0, 255, 0}},
		{"one kept", []api.Cell{plain, {Glyph: 'a', Kept: true}}, []byte{1, 0, 0, 0, 97, 0, 0, 1, 0, 0, 0, 97, 0, 1}},
		{"the greatest byte first", []api.Cell{{Glyph: 0x12345678}}, []byte{1, 0x12, 0x34, 0x56, 0x78, 0, 0}},
		{"below 0", []api.Cell{{Glyph: -2, Rend: 4, Kept: true}}, []byte{1, 255, 255, 255, 254, 4, 1}},
		{"the least glyph", []api.Cell{{Glyph: math.MinInt32}}, []byte{1, 128, 0, 0, 0, 0, 0}},
		{"the greatest glyph", []api.Cell{{Glyph: math.MaxInt32}}, []byte{1, 127, 255, 255, 255, 0, 0}},
		{"254", times(254, plain), []byte{254, 0, 0, 0, 97, 0, 0}},
		{"255", times(255, plain), []byte{255, 0, 0, 0, 97, 0, 0}},
		{"256", times(256, plain), []byte{255, 0, 0, 0, 97, 0, 0, 1, 0, 0, 0, 97, 0, 0}},
		{"510", times(510, plain), []byte{255, 0, 0, 0, 97, 0, 0, 255, 0, 0, 0, 97, 0, 0}},
		{"513", times(513, plain), []byte{255, 0, 0, 0, 97, 0, 0, 255, 0, 0, 0, 97, 0, 0, 3, 0, 0, 0, 97, 0, 0}},
		{"255 and another", append(times(255, plain), other), []byte{255, 0, 0, 0, 97, 0, 0, 1, 0, 0, 0, 98, 0, 0}},
	} {
		if got := cell.Encode(x.row); !slices.Equal(got, x.want) {
			t.Errorf("P2.3: Encode of %s = %v, not %v", x.name, got, x.want)
		}
		if got, e := cell.Decode(x.want); e != api.OK || !slices.Equal(got, x.row) {
			t.Errorf("P2.3: Decode of %s: %d cells, %d", x.name, len(got), e)
		}
	}
}

func TestDecodeWrong(t *testing.T) {
	good := []byte{2, 0, 0, 0, 97, 0, 0}
	full := []byte{255, 0, 0, 0, 97, 0, 0}
	almost := []byte{254, 0, 0, 0, 97, 0, 0}
	for _, x := range []struct {
		name string
		b    []byte
	}{
		{"count 0", []byte{0, 0, 0, 0, 97, 0, 0}},
		{"count 0 of the zero cell", []byte{0, 0, 0, 0, 0, 0, 0}},
		{"kept 2", []byte{1, 0, 0, 0, 97, 0, 2}},
		{"kept 255", []byte{1, 0, 0, 0, 97, 0, 255}},
		{"count 0 behind a run", slices.Concat(good, []byte{0, 0, 0, 0, 98, 0, 0})},
		{"kept 2 behind a run", slices.Concat(good, []byte{1, 0, 0, 0, 98, 0, 2})},
		{"the same cell", []byte{1, 0, 0, 0, 97, 0, 0, 1, 0, 0, 0, 97, 0, 0}},
		{"the same cell, the second run full", slices.Concat(good, full)},
		{"the same cell behind 254", slices.Concat(almost, good)},
		{"the same zero cell", []byte{1, 0, 0, 0, 0, 0, 0, 1, 0, 0, 0, 0, 0, 0}},
		{"the same cell behind a full run and one that isn't", slices.Concat(full, good, good)},
		{"the same cell, all fields", []byte{9, 1, 2, 3, 4, 255, 1, 9, 1, 2, 3, 4, 255, 1}},
	} {
		if row, e := cell.Decode(x.b); e != api.ErrForm || len(row) != 0 {
			t.Errorf("P2.3: Decode of %s: %d cells, %d", x.name, len(row), e)
		}
	}
	for _, ahead := range [][]byte{nil, good, full} {
		for n := 1; n < 7; n++ {
			b := slices.Concat(ahead, []byte{1, 0, 0, 0, 98, 0, 0}[:n])
			if row, e := cell.Decode(b); e != api.ErrForm || len(row) != 0 {
				t.Errorf("P2.3: Decode of %d bytes: %d cells, %d", len(b), len(row), e)
			}
		}
	}
}

func TestDecodeRight(t *testing.T) {
	full := []byte{255, 0, 0, 0, 97, 0, 0}
	for _, x := range []struct {
		name string
		b    []byte
		want []api.Cell
	}{
		{"none", nil, nil},
		{"no bytes", []byte{}, nil},
		{"two full runs", slices.Concat(full, full), times(510, plain)},
		{"a full run and the rest", slices.Concat(full, []byte{9, 0, 0, 0, 97, 0, 0}), times(264, plain)},
		{"the zero cell first", []byte{1, 0, 0, 0, 0, 0, 0}, []api.Cell{{}}},
		{"alike, but for the rendition's sixth bit", []byte{1, 0, 0, 0, 97, 0, 0, 1, 0, 0, 0, 97, 32, 0}, []api.Cell{plain, {Glyph: 'a', Rend: 32}}},
		{"alike, but for the keeping", []byte{1, 0, 0, 0, 97, 0, 0, 1, 0, 0, 0, 97, 0, 1}, []api.Cell{plain, {Glyph: 'a', Kept: true}}},
		{"alike, but for the glyph's greatest byte", []byte{1, 0, 0, 0, 97, 0, 0, 1, 1, 0, 0, 97, 0, 0}, []api.Cell{plain, {Glyph: 0x01000061}}},
		{"the same cell, another one between", []byte{1, 0, 0, 0, 97, 0, 0, 1, 0, 0, 0, 98, 0, 0, 1, 0, 0, 0, 97, 0, 0}, []api.Cell{plain, other, plain}},
		{"below 0", []byte{1, 255, 255, 255, 255, 0, 0}, []api.Cell{{Glyph: -1}}},
	} {
		row, e := cell.Decode(x.b)
		if e != api.OK || !slices.Equal(row, x.want) {
			t.Errorf("P2.3: Decode of %s = %v, %d", x.name, row, e)
		}
		if back := cell.Encode(row); !slices.Equal(back, x.b) {
			t.Errorf("P2.3: Encode of Decode of %s = %v", x.name, back)
		}
	}
}

func TestEncodeDecodeUndoEachOther(t *testing.T) {
	rnd := rand.New(rand.NewSource(23))
	for range 500 {
		row := someRow(rnd)
		was := slices.Clone(row)
		b := cell.Encode(row)
		if !slices.Equal(row, was) {
			t.Fatalf("P2.4: Encode changes the row that was handed in")
		}
		back, e := cell.Decode(b)
		if e != api.OK || !slices.Equal(back, row) {
			t.Fatalf("P2.3: %d cells come back as %d, %d", len(row), len(back), e)
		}
		again := cell.Encode(back)
		if !slices.Equal(again, b) {
			t.Fatalf("P2.3: unlike bytes of the same row: %v, %v", b, again)
		}
	}
}

// Bytes that can be read are those of just one row; others are refused.
func TestDecodeThenEncode(t *testing.T) {
	rnd := rand.New(rand.NewSource(24))
	counts := []byte{0, 1, 2, 254, 255, 255}
	read, refused := 0, 0
	for range 20000 {
		b := make([]byte, 0, 32)
		for range rnd.Intn(4) {
			b = append(b, counts[rnd.Intn(len(counts))], 0, 0, 0, byte(rnd.Intn(2)), 0, byte(rnd.Intn(5)/2))
		}
		if len(b) > 0 && rnd.Intn(6) == 0 {
			b = b[:len(b)-1-rnd.Intn(6)]
		}
		row, e := cell.Decode(b)
		want := readable(b)
		if (e == api.OK) != want || !want && (e != api.ErrForm || len(row) != 0) {
			t.Fatalf("P2.3: Decode(%v): %d cells, %d", b, len(row), e)
		}
		if want {
			read++
			if back := cell.Encode(row); !slices.Equal(back, b) {
				t.Fatalf("P2.3: Encode of Decode of %v = %v", b, back)
			}
		} else {
			refused++
		}
	}
	if read < 1000 || refused < 1000 {
		t.Errorf("too few of a kind: %d read, %d refused", read, refused)
	}
}

// readable tells by the document's words whether these bytes are a row's.
func readable(b []byte) bool {
	if len(b)%7 != 0 {
		return false
	}
	for i := 0; i < len(b); i += 7 {
		if b[i] == 0 || b[i+6] > 1 {
			return false
		}
		if i > 0 && b[i-7] < 255 && slices.Equal(b[i-6:i], b[i+1:i+7]) {
			return false
		}
	}
	return true
}

func TestWhatIsHandedInStays(t *testing.T) {
	room := []api.Cell{plain, plain, strong, other, {Glyph: 'z'}, {Glyph: 'y'}}
	was := slices.Clone(room)
	cell.Encode(room[:4])
	cell.Sum(room[:4], room[1:2])
	cell.Negated(room[:4], room[1:2])
	if !slices.Equal(room, was) {
		t.Errorf("P2.4: cells that were handed in are changed: %v", room)
	}
	for i := range 512 {
		alone := []api.Cell{{Glyph: rune(i), Rend: api.Rend(i), Kept: i > 255}}
		was := alone[0]
		cell.Encode(alone)
		cell.Sum(alone)
		cell.Negated(alone)
		if alone[0] != was {
			t.Errorf("P2.4: a cell that was handed in is changed: %v to %v", was, alone[0])
		}
	}
	rows := [][]api.Cell{room[:1], room[1:2], nil}
	cell.Sum(rows[:2]...)
	cell.Negated(rows[:2]...)
	if len(rows[0]) != 1 || &rows[0][0] != &room[0] || len(rows[1]) != 1 || &rows[1][0] != &room[1] || rows[2] != nil {
		t.Errorf("P2.4: rows that were handed in are changed")
	}
	bytes := append(cell.Encode(room), 1, 2, 3, 4, 5, 6, 7)
	copied := slices.Clone(bytes)
	cell.Decode(bytes[:len(bytes)-7])
	cell.Decode(bytes[:len(bytes)-9])
	if !slices.Equal(bytes, copied) {
		t.Errorf("P2.4: bytes that were handed in are changed: %v", bytes)
	}
}

func TestAnswersAreNewMemory(t *testing.T) {
	row := []api.Cell{plain, plain, strong}
	first, second := cell.Encode(row), cell.Encode(row)
	want := slices.Clone(second)
	for i := range first {
		first[i] = 99
	}
	for i := range row {
		row[i] = other
	}
	if !slices.Equal(second, want) {
		t.Errorf("P2.4: Encode's answers share memory: %v", second)
	}
	bytes := slices.Clone(want)
	one, _ := cell.Decode(bytes)
	two, _ := cell.Decode(bytes)
	for i := range one {
		one[i] = other
	}
	for i := range bytes {
		bytes[i] = 98
	}
	if !slices.Equal(two, []api.Cell{plain, plain, strong}) {
		t.Errorf("P2.4: Decode's answers share memory: %v", two)
	}
	erased := cell.Erased()
	erased.Glyph = 'x'
	if cell.Erased().Glyph != 32 {
		t.Errorf("P2.4: Erased hangs on what it answered")
	}
}
