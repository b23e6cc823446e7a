package merge_test

import (
	"bytes"
	"fmt"
	"math"
	"math/rand"
	"reflect"
	"slices"
	"strings"
	"testing"

	"phosphor/api"
	"phosphor/keys"
	"phosphor/merge"
	"phosphor/script"
	"phosphor/term"
)

func host(at int, s string) script.Item {
	return script.Item{At: at, Kind: script.Host, Data: []byte(s)}
}

// merged is what Merge is to answer, told by the document's words: again and again all first items are looked at.
func merged(sources [][]script.Item) []merge.Placed {
	taken := make([]int, len(sources))
	var order []merge.Placed
	for {
		best := -1
		for n, items := range sources {
			if taken[n] < len(items) && (best < 0 || items[taken[n]].At < sources[best][taken[best]].At) {
				best = n
			}
		}
		if best < 0 {
			return order
		}
		order = append(order, merge.Placed{Item: sources[best][taken[best]], Source: best})
		taken[best]++
	}
}

// alike: are these the same items of the same sources? Lists of none are alike, too.
func alike(a, b []merge.Placed) bool {
	return slices.EqualFunc(a, b, func(x, y merge.Placed) bool {
		same := bytes.Equal(x.Data, y.Data)
		x.Data, y.Data = nil, nil
		return same && reflect.DeepEqual(x, y)
	})
}

func checkMerge(t *testing.T, sources [][]script.Item) {
	t.Helper()
	want := merged(sources)
	got := merge.Merge(sources...)
	if !alike(got, want) {
		t.Fatalf("P26.1: Merge(%v) = %v, not %v", sources, got, want)
	}
	for n, items := range sources {
		var own []script.Item
		for _, p := range got {
			if p.Source == n {
				own = append(own, p.Item)
			}
		}
		if !slices.EqualFunc(own, items, func(a, b script.Item) bool { return fmt.Sprint(a) == fmt.Sprint(b) }) {
			t.Fatalf("P26.1: of %v come %v", items, own)
		}
	}
	rising := slices.IndexFunc(sources, func(items []script.Item) bool { return !byMoments(items) }) < 0
	if rising && !slices.IsSortedFunc(got, func(a, b merge.Placed) int { return compare(a.At, b.At) }) {
		t.Fatalf("P26.1: of rising sources come %v", got)
	}
	steps := 0
	for i := range want {
		if i > 0 && want[i].Source != want[i-1].Source {
			steps++
		}
	}
	if n := merge.Steps(sources...); n != steps {
		t.Fatalf("P26.3: Steps(%v) = %d, not %d", sources, n, steps)
	}
}

func compare(a, b int) int {
	switch {
	case a < b:
		return -1
	case a > b:
		return 1
	}
	return 0
}

func byMoments(items []script.Item) bool {
	return slices.IsSortedFunc(items, func(a, b script.Item) int { return compare(a.At, b.At) })
}

func TestExample(t *testing.T) {
	one := []script.Item{host(1, "a"), host(5, "b")}
	two := []script.Item{host(1, "c"), host(2, "d")}
	s := ""
	for _, p := range merge.Merge(one, two) {
		s += fmt.Sprint(string(p.Data), p.Source, p.At, " ")
	}
	if s != "a0 1 c1 1 d1 2 b0 5 " {
		t.Errorf("P26.1: %q", s)
	}
	if n := merge.Steps(one, two); n != 2 {
		t.Errorf("P26.3: Steps = %d", n)
	}
}

func TestMerge(t *testing.T) {
	far := []int{math.MinInt, math.MinInt + 1, -1 << 32, -1, 0, 1, 1 << 32, math.MaxInt - 1, math.MaxInt}
	var early, late []script.Item
	for _, at := range far {
		early = append(early, host(at, "early"))
		late = append([]script.Item{host(at, "late")}, late...)
	}
	for _, sources := range [][][]script.Item{
		nil, {nil}, {nil, {}, nil}, {{host(3, "a")}}, {nil, {host(3, "a")}, nil}, {early}, {late}, {early, late}, {late, early}, {late, late, early, early},
		{{host(9, "a"), host(1, "b")}, {host(5, "c")}}, {{host(5, "c")}, {host(9, "a"), host(1, "b")}},
		{{host(1, "a"), host(1, "b")}, {host(1, "c"), host(1, "d")}, {host(0, "e"), host(1, "f")}},
		{{{At: 2, Kind: 9, Data: []byte("x"), Key: keys.Event{Kind: 3, Code: 4, Shift: true, Ctrl: true}, Rows: 5, Cols: 6}}, {{At: 1, Kind: -1}}},
	} {
		checkMerge(t, sources)
	}
	if merge.Steps() != 0 || merge.Steps(early) != 0 || merge.Steps(nil, early, nil) != 0 || merge.Steps(early, early) != 2*len(early)-1 {
		t.Errorf("P26.3: Steps of one source, or of two that take turns")
	}
}

func TestRandomMerges(t *testing.T) {
	r := rand.New(rand.NewSource(26))
	for turn := range 8000 {
		sources := make([][]script.Item, r.Intn(7))
		for n := range sources {
			at := r.Intn(4)
			for k := range r.Intn(9) {
				sources[n] = append(sources[n], host(at, fmt.Sprint(n, ".", k)))
				at += r.Intn(3)
				if turn%2 > 0 {
					at = r.Intn(6)
				}
			}
		}
		checkMerge(t, sources)
	}
}

// TestManySources has a great many sources, in which the least one is looked for.
func TestManySources(t *testing.T) {
	r := rand.New(rand.NewSource(261))
	sources := make([][]script.Item, 700)
	for n := range sources {
		for range r.Intn(4) {
			sources[n] = append(sources[n], host(r.Intn(50), ""))
		}
	}
	checkMerge(t, sources)
}

func begin(t *testing.T) *term.Terminal {
	t.Helper()
	x, e := term.New(3, 8, 2)
	if e != api.OK {
		t.Fatal(e)
	}
	return x
}

// played is what Play is to answer, and the terminal behind it.
func played(x *term.Terminal, sources [][]script.Item) []merge.Answer {
	var answers []merge.Answer
	for _, p := range merged(sources) {
		a := merge.Answer{Source: p.Source, At: p.At}
		switch p.Kind {
		case 0:
			a.Data = x.Feed(slices.Clone(p.Data))
		case 1:
			a.Data = x.Key(p.Key)
		case 2:
			a.Err = x.Resize(p.Rows, p.Cols)
		default:
			a.Err = api.ErrArg
		}
		answers = append(answers, a)
	}
	return answers
}

func sameAnswers(a, b []merge.Answer) bool {
	return slices.EqualFunc(a, b, func(x, y merge.Answer) bool {
		return x.Source == y.Source && x.At == y.At && x.Err == y.Err && bytes.Equal(x.Data, y.Data)
	})
}

func checkPlay(t *testing.T, sources [][]script.Item) {
	t.Helper()
	x, y := begin(t), begin(t)
	want := played(y, sources)
	got := merge.Play(x, sources...)
	if !sameAnswers(got, want) {
		t.Fatalf("P26.2: Play(%v) = %v, not %v", sources, got, want)
	}
	if !x.Same(y) {
		t.Fatalf("P26.2: Play(%v): the terminal is another one", sources)
	}
	text := ""
	for _, a := range want {
		text += string(a.Data)
	}
	if s := merge.Text(got); s != text {
		t.Fatalf("P26.3: Text(%v) = %q, not %q", got, s, text)
	}
}

func TestPlay(t *testing.T) {
	up := script.Item{At: 4, Kind: script.Key, Key: keys.Event{Kind: keys.Up}}
	asks := []script.Item{host(1, "ab\x1B["), host(3, "6n\x1B[?1h"), host(5, "\x1B[5n")}
	others := []script.Item{{At: 2, Kind: script.Size, Rows: 2, Cols: 1}, up, {At: 5, Kind: script.Size, Rows: 501, Cols: 1}, {At: 6, Kind: 3, Data: []byte("x"), Rows: 1, Cols: 1}, {At: 7, Kind: -1, Key: up.Key}}
	x := begin(t)
	answers := merge.Play(x, others, asks)
	want := []merge.Answer{
		{Source: 1, At: 1}, {Source: 0, At: 2}, {Source: 1, At: 3, Data: []byte("\x1B[1;1R")}, {Source: 0, At: 4, Data: []byte("\x1BOA")},
		{Source: 0, At: 5, Err: api.ErrArg}, {Source: 1, At: 5, Data: []byte("\x1B[0n")}, {Source: 0, At: 6, Err: api.ErrArg}, {Source: 0, At: 7, Err: api.ErrArg},
	}
	if !sameAnswers(answers, want) {
		t.Errorf("P26.2: %v", answers)
	}
	for _, a := range answers {
		if a.Err != api.OK && len(a.Data) > 0 {
			t.Errorf("P26.2: bytes beside an error: %v", a)
		}
	}
	if p := x.Book().Sheet(); p.Rows() != 2 || p.Cols() != 1 || p.At(api.Pos{}).Glyph != 'a' {
		t.Errorf("P26.2: the page")
	}
	if s := merge.Text(answers); s != "\x1B[1;1R\x1BOA\x1B[0n" {
		t.Errorf("P26.3: %q", s)
	}
	checkPlay(t, [][]script.Item{others, asks})
	checkPlay(t, nil)
	checkPlay(t, [][]script.Item{nil, {}})
	if merge.Text(nil) != "" || merge.Text([]merge.Answer{{Err: api.ErrArg}, {}}) != "" {
		t.Errorf("P26.3: Text of nothing")
	}
	if s := merge.Text([]merge.Answer{{Data: []byte("a\x00")}, {At: 9, Source: 3}, {Data: []byte("\xFFb"), Err: api.ErrNone}}); s != "a\x00\xFFb" {
		t.Errorf("P26.3: %q", s)
	}
}

// TestUnused: what a kind doesn't use doesn't count.
func TestUnused(t *testing.T) {
	full := script.Item{Data: []byte("\x1B[6n"), Key: keys.Event{Kind: keys.Down}, Rows: 1, Cols: 2}
	for _, c := range []struct {
		kind int
		data string
		rows int
	}{{script.Host, "\x1B[1;1R", 3}, {script.Key, "\x1B[B", 3}, {script.Size, "", 1}, {3, "", 3}, {math.MinInt, "", 3}, {1 << 32, "", 3}, {1<<32 + 1, "", 3}} {
		x := begin(t)
		full.Kind = c.kind
		answers := merge.Play(x, []script.Item{full})
		if len(answers) != 1 || string(answers[0].Data) != c.data || x.Book().Sheet().Rows() != c.rows || (answers[0].Err != api.OK) != (c.kind > 2 || c.kind < 0) {
			t.Errorf("P26.2: an item of kind %d: %v", c.kind, answers)
		}
	}
}

// pieces are those of which the hosts of a test say something.
var pieces = []string{
	"abc", "\r\n", "\x1B[6n", "\x1B[c", "\x1B[2;2H", "\x1B[2J", "\x1B[?1h", "\x1B[?6n", "\x1BP1;1;1!z78!2;79;\x1B\\", "\x1B[1*z", "\x1BP0;1|17/4142\x1B\\", "\x1B[65;1;1;2;3$x",
	"\x1B[1;1;1;1;1;1*y", "\x9B5n", "\x1B G", "\x1B[", "\x1B", "\x9B3", "\x1BP$qr", "\x1B\\", "\x18", "\x1B[2$~", "\x1B[1$}", "\x1B[0$}", "\x1B[2;3r", "\x1Bc", "\x90", "\x9C",
}

// someItem is one of any kind that may come at that moment.
func someItem(r *rand.Rand, at int) script.Item {
	switch r.Intn(6) {
	case 0:
		return script.Item{At: at, Kind: script.Key, Key: keys.Event{Kind: r.Intn(18), Code: byte(r.Intn(128)), Shift: r.Intn(2) > 0, Ctrl: r.Intn(2) > 0}}
	case 1:
		return script.Item{At: at, Kind: script.Size, Rows: r.Intn(6), Cols: r.Intn(10)}
	case 2:
		return script.Item{At: at, Kind: r.Intn(7) - 2, Data: []byte("x"), Rows: 2, Cols: 2}
	}
	return host(at, pieces[r.Intn(len(pieces))])
}

// recut are the same items with those of the host cut and joined, where moment and kind are one.
func recut(r *rand.Rand, items []script.Item) []script.Item {
	var list []script.Item
	for i := 0; i < len(items); {
		if items[i].Kind != script.Host {
			list = append(list, items[i])
			i++
			continue
		}
		at, data := items[i].At, ""
		for ; i < len(items) && items[i].Kind == script.Host && items[i].At == at; i++ {
			data += string(items[i].Data)
		}
		for len(data) > 0 {
			n := 1 + r.Intn(len(data))
			list = append(list, host(at, data[:n]))
			data = data[n:]
		}
		if r.Intn(4) == 0 {
			list = append(list, host(at, ""))
		}
	}
	return list
}

func TestRandomPlays(t *testing.T) {
	r := rand.New(rand.NewSource(262))
	for range 1500 {
		sources := make([][]script.Item, 1+r.Intn(4))
		others := make([][]script.Item, len(sources))
		for n := range sources {
			at := 0
			for range r.Intn(14) {
				sources[n] = append(sources[n], someItem(r, at))
				at += r.Intn(5) / 3
			}
			others[n] = recut(r, sources[n])
		}
		checkPlay(t, sources)
		x, y := begin(t), begin(t)
		a, b := merge.Text(merge.Play(x, sources...)), merge.Text(merge.Play(y, others...))
		if a != b || !x.Same(y) {
			t.Fatalf("P26.2: cut and joined, %v and %v answer %q and %q", sources, others, a, b)
		}
	}
}

// TestScripts has scripts as texts played, one behind the other on one terminal as well as at once.
func TestScripts(t *testing.T) {
	one, _, e := script.Script("# a host\n1 host \"ab\\x1b[6\"\n4 host \"n\"\n9 size 2 4\n")
	two, _, f := script.Script("2 host \"\"\n3 key 5 0\n")
	if e != api.OK || f != api.OK {
		t.Fatal(e, f)
	}
	x, y := begin(t), begin(t)
	s := merge.Text(merge.Play(x, one, two))
	if s != "\x1B[A\x1B[1;3R" || x.Book().Sheet().Cols() != 4 {
		t.Errorf("P26.2: %q", s)
	}
	if s := merge.Text(merge.Play(y, one)) + merge.Text(merge.Play(y, two)); s != "\x1B[1;3R\x1B[A" || !x.Same(y) {
		t.Errorf("P26.2: one behind the other: %q", s)
	}
}

// TestMemory: lists that come in stay as they are, their spare room too; what goes out shares nothing.
func TestMemory(t *testing.T) {
	room := []byte("ab\x1B[6ncd")
	spare := []script.Item{host(1, ""), host(2, "x"), host(0, "spare")}
	spare[0].Data = room[:6]
	sources := [][]script.Item{spare[:2], {{At: 1, Data: room[:6]}, {At: 1, Kind: script.Key, Data: room[:2]}}}
	before := fmt.Sprint(spare, sources, room)
	placed := merge.Merge(sources...)
	answers := merge.Play(begin(t), sources...)
	merge.Steps(sources...)
	text := merge.Text(answers)
	again := merge.Play(begin(t), sources...)
	for i := range placed {
		_ = append(placed[i].Data, "spoilt"...)
		clear(placed[i].Data)
	}
	for i := range answers {
		_ = append(answers[i].Data, "spoilt"...)
		clear(answers[i].Data)
	}
	if after := fmt.Sprint(spare, sources, room); after != before {
		t.Errorf("P26.4: what was handed in has become %s, from %s", after, before)
	}
	if s := merge.Text(again); s != text || !strings.Contains(s, "\x1B[1;3R") {
		t.Errorf("P26.4: another answer has become %q", s)
	}
	other := merge.Merge(sources...)
	clear(room)
	if string(other[0].Data) != "ab\x1B[6n" || string(other[1].Data) != "ab\x1B[6n" || string(other[2].Data) != "ab" {
		t.Errorf("P26.4: what was answered is kept by what was handed in: %v", other)
	}
}

// TestEmbedded: a placed item has what its item has.
func TestEmbedded(t *testing.T) {
	p := merge.Placed{Item: host(7, "a"), Source: 2}
	if p.At != 7 || p.Item.At != 7 || string(p.Data) != "a" || p.Kind != script.Host {
		t.Errorf("P26.1: %v", p)
	}
}
