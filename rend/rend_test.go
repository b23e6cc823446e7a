package rend_test

import (
	"math"
	"slices"
	"testing"

	"phosphor/api"
	"phosphor/rend"
)

const (
	none = api.Rend(0)
	all  = api.Bold | api.Under | api.Blink | api.Reverse | api.Hidden
)

// The tests' own table, apart from the package's: what the document says of each part.
var told = []struct {
	bit     api.Rend
	on, off int
	letter  string
	weight  int
}{
	{api.Bold, 1, 22, "b", 128},
	{api.Under, 4, 24, "u", 16},
	{api.Blink, 5, 25, "k", 64},
	{api.Reverse, 7, 27, "r", 32},
	{api.Hidden, 8, 28, "h", 8},
}

// odd are numbers that change nothing, those among them that would, if they were cut to fewer bits.
var odd = []int{
	-1, -22, 2, 3, 6, 9, 10, 20, 21, 23, 26, 29, 30, 41, 221, 256, 257, 260, 278, 65536, 65537,
	1 << 32, 1<<32 + 1, 1<<32 + 22, -1 << 32, math.MinInt32, math.MaxInt32, math.MinInt, math.MinInt + 1, math.MinInt + 4, math.MaxInt,
}

// everyRend calls f with all 256 values, so also with those that have bits which are none.
func everyRend(f func(r api.Rend)) {
	for i := range 256 {
		f(api.Rend(i))
	}
}

func wantApply(r api.Rend, n int) api.Rend {
	switch n {
	case 0:
		return 0
	case 1:
		return r&all | api.Bold
	case 4:
		return r&all | api.Under
	case 5:
		return r&all | api.Blink
	case 7:
		return r&all | api.Reverse
	case 8:
		return r&all | api.Hidden
	case 22:
		return r & (all - api.Bold)
	case 24:
		return r & (all - api.Under)
	case 25:
		return r & (all - api.Blink)
	case 27:
		return r & (all - api.Reverse)
	case 28:
		return r & (all - api.Hidden)
	}
	return r & all
}

func wantFlip(r api.Rend, n int) api.Rend {
	switch n {
	case 0:
		return r&all ^ (api.Bold | api.Under | api.Blink | api.Reverse)
	case 1:
		return r&all ^ api.Bold
	case 4:
		return r&all ^ api.Under
	case 5:
		return r&all ^ api.Blink
	case 7:
		return r&all ^ api.Reverse
	case 8:
		return r&all ^ api.Hidden
	}
	return r & all
}

func TestConstantsAreFiveBits(t *testing.T) {
	if all != 31 {
		t.Errorf("the five together are %d", all)
	}
}

func TestApplyExamples(t *testing.T) {
	for _, x := range []struct {
		r      api.Rend
		params []int
		want   api.Rend
	}{
		{api.Bold, []int{4, 22}, api.Under},
		{api.Bold, nil, none},
		{api.Bold, []int{}, none},
		{all, []int{0}, none},
		{none, []int{1, 4, 5, 7, 8}, all},
		{all, []int{22, 24, 25, 27, 28}, none},
		{none, []int{1, 22}, none},
		{none, []int{22, 1}, api.Bold},
		{all, []int{0, 5}, api.Blink},
		{all, []int{5, 0}, none},
		{none, []int{1, 0, 4}, api.Under},
		{api.Bold, []int{1}, api.Bold},
		{api.Bold, []int{24}, api.Bold},
		{api.Bold, []int{99, 4, -4}, api.Bold | api.Under},
		{api.Bold, []int{99}, api.Bold},
	} {
		if got := rend.Apply(x.r, x.params...); got != x.want {
			t.Errorf("P1.1: Apply(%d, %v) = %d, not %d", x.r, x.params, got, x.want)
		}
	}
}

func TestApplyOneNumber(t *testing.T) {
	everyRend(func(r api.Rend) {
		for n := -300; n <= 600; n++ {
			if got := rend.Apply(r, n); got != wantApply(r, n) {
				t.Errorf("P1.1: Apply(%d, %d) = %d, not %d", r, n, got, wantApply(r, n))
			}
		}
		for _, n := range odd {
			if got := rend.Apply(r, n); got != r&all {
				t.Errorf("P1.1: Apply(%d, %d) = %d, not %d", r, n, got, r&all)
			}
		}
		if got := rend.Apply(r); got != none {
			t.Errorf("P1.1: Apply(%d) = %d, not none", r, got)
		}
	})
}

func TestApplyNumberByNumber(t *testing.T) {
	numbers := []int{-1, 0, 1, 2, 4, 5, 7, 8, 21, 22, 24, 25, 27, 28}
	everyRend(func(r api.Rend) {
		for _, a := range numbers {
			for _, b := range numbers {
				want := wantApply(wantApply(r, a), b)
				if got := rend.Apply(r, a, b); got != want {
					t.Errorf("P1.1: Apply(%d, %d, %d) = %d, not %d", r, a, b, got, want)
				}
			}
		}
	})
}

// No bound is told for how many numbers there are.
func TestApplyAndFlipTakeLongLists(t *testing.T) {
	list := make([]int, 5000)
	for i := range list {
		list[i] = 99
	}
	list = append(list, 4)
	if got := rend.Apply(api.Bold, list...); got != api.Bold|api.Under {
		t.Errorf("P1.1: Apply of a long list = %d", got)
	}
	if got := rend.Flip(api.Bold, list...); got != api.Bold|api.Under {
		t.Errorf("P1.2: Flip of a long list = %d", got)
	}
}

func TestFlipExamples(t *testing.T) {
	for _, x := range []struct {
		r      api.Rend
		params []int
		want   api.Rend
	}{
		{api.Bold, []int{0}, api.Under | api.Blink | api.Reverse},
		{api.Bold, nil, api.Under | api.Blink | api.Reverse},
		{api.Bold, []int{}, api.Under | api.Blink | api.Reverse},
		{api.Hidden, []int{0}, all},
		{all, []int{0}, api.Hidden},
		{none, []int{1, 4, 5, 7, 8}, all},
		{all, []int{1, 4, 5, 7, 8}, none},
		{none, []int{8, 8}, none},
		{none, []int{8, 1, 8}, api.Bold},
		{none, []int{0, 1}, api.Under | api.Blink | api.Reverse},
		{api.Bold, []int{22, 24, 25, 27, 28}, api.Bold},
		{api.Under, []int{99, -1, 8}, api.Under | api.Hidden},
	} {
		if got := rend.Flip(x.r, x.params...); got != x.want {
			t.Errorf("P1.2: Flip(%d, %v) = %d, not %d", x.r, x.params, got, x.want)
		}
	}
}

func TestFlipOneNumber(t *testing.T) {
	everyRend(func(r api.Rend) {
		for n := -300; n <= 600; n++ {
			if got := rend.Flip(r, n); got != wantFlip(r, n) {
				t.Errorf("P1.2: Flip(%d, %d) = %d, not %d", r, n, got, wantFlip(r, n))
			}
		}
		for _, n := range odd {
			if got := rend.Flip(r, n); got != r&all {
				t.Errorf("P1.2: Flip(%d, %d) = %d, not %d", r, n, got, r&all)
			}
		}
		if got := rend.Flip(r); got != wantFlip(r, 0) {
			t.Errorf("P1.2: Flip(%d) = %d, not %d", r, got, wantFlip(r, 0))
		}
	})
}

func TestFlipTwiceUndoesItself(t *testing.T) {
	numbers := []int{-1, 0, 1, 2, 4, 5, 7, 8, 22, 28}
	everyRend(func(r api.Rend) {
		for _, a := range numbers {
			for _, b := range numbers {
				once := rend.Flip(r, a, b)
				if want := wantFlip(wantFlip(r, a), b); once != want {
					t.Errorf("P1.2: Flip(%d, %d, %d) = %d, not %d", r, a, b, once, want)
				}
				if twice := rend.Flip(once, a, b); twice != r&all {
					t.Errorf("P1.2: Flip(%d, %d, %d) twice = %d", r, a, b, twice)
				}
			}
		}
		if twice := rend.Flip(rend.Flip(r)); twice != r&all {
			t.Errorf("P1.2: Flip(%d) twice = %d", r, twice)
		}
	})
}

func TestParams(t *testing.T) {
	if got := rend.Params(api.Under | api.Hidden); !slices.Equal(got, []int{0, 4, 8}) {
		t.Errorf("P1.3: Params(Under, Hidden) = %v", got)
	}
	if got := rend.Params(255); !slices.Equal(got, []int{0, 1, 4, 5, 7, 8}) {
		t.Errorf("P1.3: Params of all = %v", got)
	}
	everyRend(func(r api.Rend) {
		want := []int{0}
		for _, p := range told {
			if r&p.bit != 0 {
				want = append(want, p.on)
			}
		}
		got := rend.Params(r)
		if !slices.Equal(got, want) {
			t.Errorf("P1.3: Params(%d) = %v, not %v", r, got, want)
		}
		everyRend(func(q api.Rend) {
			if made := rend.Apply(q, got...); made != r&all {
				t.Errorf("P1.3: Apply(%d, Params(%d)) = %d", q, r, made)
			}
		})
	})
}

func TestParamsAreNewMemory(t *testing.T) {
	first := rend.Params(all)
	second := rend.Params(all)
	for i := range first {
		first[i] = 99
	}
	if want := []int{0, 1, 4, 5, 7, 8}; !slices.Equal(second, want) || !slices.Equal(rend.Params(all), want) {
		t.Errorf("P1.3: answers share memory: %v, %v", second, rend.Params(all))
	}
}

func TestListsStayAsTheyWere(t *testing.T) {
	room := []int{1, 0, 4, 99, 77, 78}
	rend.Apply(api.Bold, room[:4]...)
	rend.Flip(api.Bold, room[:4]...)
	if !slices.Equal(room, []int{1, 0, 4, 99, 77, 78}) {
		t.Errorf("P1.1, P1.2: a list that was handed in is changed: %v", room)
	}
}

func TestLetters(t *testing.T) {
	if got := rend.Letters(api.Bold | api.Reverse); got != "br" {
		t.Errorf("P1.4: Letters(Bold, Reverse) = %q", got)
	}
	if got := rend.Letters(255); got != "bukrh" {
		t.Errorf("P1.4: Letters of all = %q", got)
	}
	everyRend(func(r api.Rend) {
		want := ""
		for _, p := range told {
			if r&p.bit != 0 {
				want += p.letter
			}
		}
		if got := rend.Letters(r); got != want {
			t.Errorf("P1.4: Letters(%d) = %q, not %q", r, got, want)
		}
		if back, e := rend.FromLetters(want); back != r&all || e != api.OK {
			t.Errorf("P1.4: FromLetters(%q) = %d, %d", want, back, e)
		}
	})
}

// All texts of up to five letters, a wrong one among them: only the 32 that Letters answers may be read.
func TestFromLettersTakesNoOther(t *testing.T) {
	right := map[string]api.Rend{}
	for r := range api.Rend(32) {
		right[rend.Letters(r)] = r
	}
	if len(right) != 32 {
		t.Fatalf("P1.4: %d texts of 32 renditions", len(right))
	}
	texts := []string{""}
	for length := 0; length <= 5; length++ {
		var longer []string
		for _, s := range texts {
			want, ok := right[s]
			wantErr := api.OK
			if !ok {
				wantErr = api.ErrForm
			}
			if got, e := rend.FromLetters(s); got != want || e != wantErr {
				t.Errorf("P1.4: FromLetters(%q) = %d, %d", s, got, e)
			}
			for _, c := range "bukrhx" {
				longer = append(longer, s+string(c))
			}
		}
		texts = longer
	}
}

func TestFromLettersWrong(t *testing.T) {
	for _, s := range []string{
		"rb", "bb", "bub", "x", "bx", "xb", "B", "bU", " ", "b ", " b", "b u", "b,u", "\x00", "b\x00", "bukrhh", "bukrhb", "bukrh ",
		"\xff", "b\xff", "\u0062\u0301", "\u0162", "1", "a", "c", "hrkub",
	} {
		if r, e := rend.FromLetters(s); r != none || e != api.ErrForm {
			t.Errorf("P1.4: FromLetters(%q) = %d, %d", s, r, e)
		}
	}
	for c := range 256 {
		s := string([]byte{byte(c)})
		r, e := rend.FromLetters(s)
		if i := slices.Index([]string{"b", "u", "k", "r", "h"}, s); i >= 0 {
			if r != told[i].bit || e != api.OK {
				t.Errorf("P1.4: FromLetters(%q) = %d, %d", s, r, e)
			}
		} else if r != none || e != api.ErrForm {
			t.Errorf("P1.4: FromLetters(%q) = %d, %d", s, r, e)
		}
	}
}

func TestWeight(t *testing.T) {
	if got := rend.Weight(api.Bold | api.Hidden); got != 136 {
		t.Errorf("P1.4: Weight(Bold, Hidden) = %d", got)
	}
	if got := rend.Weight(255); got != 248 {
		t.Errorf("P1.4: Weight of all = %d", got)
	}
	everyRend(func(r api.Rend) {
		want := 0
		for _, p := range told {
			if r&p.bit != 0 {
				want += p.weight
			}
		}
		if got := rend.Weight(r); got != want {
			t.Errorf("P1.4: Weight(%d) = %d, not %d", r, got, want)
		}
	})
}
