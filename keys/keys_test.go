package keys_test

import (
	"bytes"
	"fmt"
	"math"
	"strconv"
	"testing"

	"phosphor/keys"
	"phosphor/mode"
	"phosphor/parser"
	"phosphor/token"
	"phosphor/udk"
)

// What follows tells by the document's table, apart from the package, what keys send. A row's text is written with <csi> and <ss3> in place of those controls.

var bothWays = []bool{false, true}

var allModes = []mode.Mode{mode.KAM, mode.IRM, mode.SRM, mode.LNM, mode.CKM, mode.SCNM, mode.OM, mode.AWM, mode.ARM, mode.TCEM, mode.NRCM, mode.PCCM, mode.NKM, mode.BKM, mode.KBUM, mode.LRMM, mode.NCSM}

// named are the modes on which what is sent may hang.
var named = []mode.Mode{mode.KAM, mode.LNM, mode.CKM, mode.NKM, mode.BKM}

// levels are those that there are; beside is one below, and some above.
var (
	levels = []int{1, 2, 3, 4, 5}
	beyond = []int{6, 7, 255, 256, 257, 1 << 32, 1<<32 + 1, math.MaxInt}
	below  = []int{math.MinInt, -1 << 32, -1<<32 + 2, -255, -2, -1, 0}
)

// set are some modes: those of the bits of n, of a list.
func set(list []mode.Mode, n int) mode.Modes {
	var m mode.Modes
	for i, x := range list {
		m = m.With(x, n>>i&1 != 0)
	}
	return m
}

// csi and ss3 are what begins a sequence, of seven or of eight bits.
func csi(eight bool) string {
	if eight {
		return "\x9B"
	}
	return "\x1B["
}

func ss3(eight bool) string {
	if eight {
		return "\x8F"
	}
	return "\x1BO"
}

// fNumbers are the numbers of F 6 to F 20, as the table lists them.
var fNumbers = map[int]int{6: 17, 7: 18, 8: 19, 9: 20, 10: 21, 11: 23, 12: 24, 13: 25, 14: 26, 15: 28, 16: 29, 17: 31, 18: 32, 19: 33, 20: 34}

// own are texts of some keys.
var own = map[int]string{17: "A", 18: "BC", 23: "\x00\xFF", 34: "a longer text\r\n"}

func ownKeys(t *testing.T) *udk.Keys {
	t.Helper()
	var u udk.Keys
	for n, text := range own {
		if e := u.Define(false, false, fmt.Sprintf("%d/%x", n, text)); e != 0 {
			t.Fatalf("Define = %d", e)
		}
	}
	return &u
}

// modelled is what a key sends at a level of 1 to 5 or above, with the texts of own.
func modelled(e keys.Event, m mode.Modes, level int, eight bool) string {
	if m.Has(mode.KAM) {
		return ""
	}
	entered := "\r"
	if m.Has(mode.LNM) {
		entered = "\r\n"
	}
	switch e.Kind {
	case 0:
		return modelledChar(e, level)
	case 1:
		return entered
	case 2:
		if e.Shift && level >= 2 {
			return csi(eight) + "Z"
		}
		return "\x09"
	case 3:
		if m.Has(mode.BKM) {
			return "\x08"
		}
		return "\x7F"
	case 4:
		return "\x1B"
	case 5, 6, 7, 8:
		letter := "ABCD"[e.Kind-5 : e.Kind-4]
		if m.Has(mode.CKM) {
			return ss3(eight) + letter
		}
		return csi(eight) + letter
	case 9, 10, 11, 12, 13, 14:
		if level < 2 {
			return ""
		}
		return csi(eight) + "123456"[e.Kind-9:e.Kind-8] + "~"
	case 15:
		shown, sent := "0123456789-,.\r", "pqrstuvwxymlnM"
		for i := range len(shown) {
			if shown[i] != e.Code {
				continue
			}
			if m.Has(mode.NKM) {
				return ss3(eight) + sent[i:i+1]
			}
			if e.Code == '\r' {
				return entered
			}
			return shown[i : i+1]
		}
	case 16:
		return modelledF(e, level, eight)
	}
	return ""
}

func modelledChar(e keys.Event, level int) string {
	one := string([]byte{e.Code})
	if e.Ctrl {
		if e.Code >= 0x40 && e.Code <= 0x7E {
			return string([]byte{e.Code % 32})
		}
		if e.Code == 0x20 {
			return "\x00"
		}
		if e.Code == 0x3F {
			return "\x7F"
		}
	}
	if e.Code >= 0x20 && e.Code <= 0x7E || level >= 2 && e.Code >= 0xA0 {
		return one
	}
	return ""
}

func modelledF(e keys.Event, level int, eight bool) string {
	f := int(e.Code)
	if f >= 1 && f <= 4 {
		return ss3(eight) + "PQRS"[f-1:f]
	}
	if level == 1 {
		switch f {
		case 11:
			return "\x1B"
		case 12:
			return "\x08"
		case 13:
			return "\x0A"
		}
		return ""
	}
	n := fNumbers[f]
	if n == 0 || level < 2 {
		return ""
	}
	if e.Shift {
		return own[n]
	}
	return csi(eight) + strconv.Itoa(n) + "~"
}

// check holds what a key sends against the model; where that is nothing, the answer is to be none.
func check(t *testing.T, e keys.Event, m mode.Modes, level int, eight bool, u *udk.Keys) {
	t.Helper()
	got, want := keys.Encode(e, m, level, eight, u), modelled(e, m, level, eight)
	if string(got) != want || want == "" && got != nil {
		t.Fatalf("P22.1: Encode(%+v, modes %X, level %d, eight %v) = %q, not %q", e, uint32(m), level, eight, got, want)
	}
}

// kinds are all of them, and some that are none.
func kinds() []int {
	list := []int{math.MinInt, -1 << 32, -1<<32 + 16, -256, -17, -16, -1, 17, 18, 31, 32, 255, 256, 272, 1 << 16, 1 << 32, 1<<32 + 5, math.MaxInt}
	for kind := range 17 {
		list = append(list, kind)
	}
	return list
}

func events(kind int) []keys.Event {
	var list []keys.Event
	for code := range 256 {
		for held := range 4 {
			list = append(list, keys.Event{Kind: kind, Code: byte(code), Shift: held&1 != 0, Ctrl: held&2 != 0})
		}
	}
	return list
}

func TestEveryKey(t *testing.T) {
	u := ownKeys(t)
	for _, kind := range kinds() {
		for _, e := range events(kind) {
			for n := range 1 << len(named) {
				m := set(named, n)
				for _, level := range levels {
					for _, eight := range bothWays {
						check(t, e, m, level, eight, u)
					}
				}
			}
		}
	}
}

func TestLevelsThatAreNone(t *testing.T) {
	u := ownKeys(t)
	for _, kind := range kinds() {
		for _, e := range events(kind) {
			for _, eight := range bothWays {
				for _, level := range beyond {
					check(t, e, 0, level, eight, u)
				}
				for _, level := range below {
					check(t, e, 0, level, eight, u)
				}
			}
		}
	}
}

// all of these are keys whose sending may hang on a mode.
var various = []keys.Event{
	{Kind: keys.Char, Code: 'c'}, {Kind: keys.Char, Code: 'c', Ctrl: true}, {Kind: keys.Char, Code: 0xE9}, {Kind: keys.Return}, {Kind: keys.Tab}, {Kind: keys.Tab, Shift: true}, {Kind: keys.Backspace}, {Kind: keys.Escape},
	{Kind: keys.Up}, {Kind: keys.Down}, {Kind: keys.Right}, {Kind: keys.Left}, {Kind: keys.Find}, {Kind: keys.Insert}, {Kind: keys.Remove}, {Kind: keys.Select}, {Kind: keys.Prev}, {Kind: keys.Next},
	{Kind: keys.Pad, Code: '5'}, {Kind: keys.Pad, Code: '-'}, {Kind: keys.Pad, Code: '\r'}, {Kind: keys.Pad, Code: 'x'}, {Kind: keys.F, Code: 1}, {Kind: keys.F, Code: 5}, {Kind: keys.F, Code: 6}, {Kind: keys.F, Code: 6, Shift: true}, {Kind: keys.F, Code: 12}, {Kind: keys.F, Code: 8, Shift: true},
}

func TestModesThatAreNotNamed(t *testing.T) {
	u := ownKeys(t)
	only := set(named, 1<<len(named)-1)
	for n := range 1 << len(allModes) {
		m := set(allModes, n)
		e := various[n%len(various)]
		level := levels[n/len(various)%len(levels)]
		got, want := keys.Encode(e, m, level, n%3 == 0, u), keys.Encode(e, m&only, level, n%3 == 0, u)
		if !bytes.Equal(got, want) {
			t.Fatalf("P22.2: Encode(%+v, modes %X, level %d) = %q, not %q", e, n, level, got, want)
		}
	}
	for _, e := range various {
		for _, level := range levels {
			for n := range 1 << len(named) {
				m := set(named, n)
				for _, x := range allModes {
					check(t, e, m|set([]mode.Mode{x}, 1)&^only, level, false, u)
				}
				// Bits that are no mode's don't show, either.
				check(t, e, m|^mode.Modes(0)&^only, level, true, u)
			}
		}
	}
}

func TestModesChangeWhatTheTableSays(t *testing.T) {
	for _, x := range []struct {
		e        keys.Event
		m        mode.Mode
		off, set string
	}{
		{keys.Event{Kind: keys.Return}, mode.LNM, "\r", "\r\n"}, {keys.Event{Kind: keys.Backspace}, mode.BKM, "\x7F", "\x08"}, {keys.Event{Kind: keys.Left}, mode.CKM, "\x1B[D", "\x1BOD"},
		{keys.Event{Kind: keys.Pad, Code: '0'}, mode.NKM, "0", "\x1BOp"}, {keys.Event{Kind: keys.Pad, Code: '\r'}, mode.NKM, "\r", "\x1BOM"}, {keys.Event{Kind: keys.Pad, Code: '\r'}, mode.LNM, "\r", "\r\n"},
		{keys.Event{Kind: keys.Escape}, mode.KAM, "\x1B", ""}, {keys.Event{Kind: keys.F, Code: 1}, mode.KAM, "\x1BOP", ""}, {keys.Event{Kind: keys.F, Code: 20}, mode.KAM, "\x1B[34~", ""},
	} {
		off := keys.Encode(x.e, mode.Modes(0), 4, false, &udk.Keys{})
		on := keys.Encode(x.e, mode.Modes(0).With(x.m, true), 4, false, &udk.Keys{})
		if string(off) != x.off || string(on) != x.set {
			t.Errorf("P22.1: %+v sends %q and %q, not %q and %q", x.e, off, on, x.off, x.set)
		}
	}
}

// sequences are the function and editing keys that send one at a level.
func sequences() []keys.Event {
	var list []keys.Event
	for kind := keys.Find; kind <= keys.Next; kind++ {
		list = append(list, keys.Event{Kind: kind})
	}
	for code := range 256 {
		list = append(list, keys.Event{Kind: keys.F, Code: byte(code)})
	}
	return list
}

func TestUnlikeKeysSendUnlikeSequences(t *testing.T) {
	var u udk.Keys
	for _, eight := range bothWays {
		for n := range 1 << len(named) {
			seen, kinds := map[string]keys.Event{}, 0
			for _, e := range sequences() {
				b := keys.Encode(e, set(named[1:], n), 5, eight, &u)
				if len(b) == 0 {
					continue
				}
				kinds++
				if other, is := seen[string(b)]; is {
					t.Errorf("P22.3: %+v and %+v send %q", e, other, b)
				}
				seen[string(b)] = e
				readOne(t, e, b)
			}
			if kinds != 6+4+15 {
				t.Errorf("P22.3: %d keys send something", kinds)
			}
		}
	}
}

// readOne holds what a parser reads of a key's sequence against that which was sent: one token, or, behind a shift to G3, that and the character.
func readOne(t *testing.T, e keys.Event, b []byte) {
	t.Helper()
	want := []token.Token{{Kind: token.Csi, Code: '~', Params: []int{fNumbers[int(e.Code)]}}}
	if e.Kind != keys.F {
		want[0].Params[0] = e.Kind - keys.Find + 1
	} else if e.Code <= 4 {
		want = []token.Token{{Kind: token.Esc, Code: 'O'}, {Kind: token.Print, Code: 'P' + e.Code - 1}}
	}
	got := parser.Split(b)
	if len(got) != len(want) {
		t.Fatalf("P22.3: of %q a parser reads %v", b, got)
	}
	for i := range got {
		if !got[i].Same(want[i]) {
			t.Errorf("P22.3: of %q a parser reads %v, not %v", b, got, want)
		}
	}
}

func TestNumberCursorEditing(t *testing.T) {
	list := []int{math.MinInt, -1 << 32, -1<<32 + 6, -256, -250, -6, -1, 256, 262, 1<<16 + 6, 1 << 32, 1<<32 + 6, 1<<63 - 1}
	for n := range 100 {
		list = append(list, n)
	}
	for _, n := range list {
		if got := keys.Number(n); got != fNumbers[n] {
			t.Errorf("P22.4: Number(%d) = %d, not %d", n, got, fNumbers[n])
		}
		if got, want := keys.Cursor(n), n == 5 || n == 6 || n == 7 || n == 8; got != want {
			t.Errorf("P22.4: Cursor(%d) = %v", n, got)
		}
		if got, want := keys.Editing(n), n >= 9 && n <= 14; got != want {
			t.Errorf("P22.4: Editing(%d) = %v", n, got)
		}
	}
}

func TestNumbersAreThoseOfKeys(t *testing.T) {
	for f := range 300 {
		n := keys.Number(f)
		var u udk.Keys
		u.Define(false, false, strconv.Itoa(n)+"/78")
		if _, ok := u.Get(n); ok != (n != 0) {
			t.Errorf("P22.4: Number(%d) = %d, and Get answers %v", f, n, ok)
		}
	}
}

func TestConstants(t *testing.T) {
	list := []int{keys.Char, keys.Return, keys.Tab, keys.Backspace, keys.Escape, keys.Up, keys.Down, keys.Right, keys.Left, keys.Find, keys.Insert, keys.Remove, keys.Select, keys.Prev, keys.Next, keys.Pad, keys.F}
	for want, kind := range list {
		if kind != want {
			t.Errorf("P22.1: the kind %d is %d", want, kind)
		}
	}
}

func TestTextsOfKeys(t *testing.T) {
	u := ownKeys(t)
	u.Lock(true)
	was := u.Clone()
	for f := range 256 {
		e := keys.Event{Kind: keys.F, Code: byte(f), Shift: true, Ctrl: f%2 == 0}
		check(t, e, 0, 2, false, u)
		one := keys.Encode(e, 0, 2, true, u)
		clear(one[:cap(one)])
		check(t, e, 0, 2, true, u)
		// Without texts there is nothing to send.
		if b := keys.Encode(e, 0, 5, false, &udk.Keys{}); fNumbers[f] != 0 && b != nil {
			t.Errorf("P22.1: F %d with Shift sends %q", f, b)
		}
	}
	if !u.Same(was) {
		t.Errorf("rule 5: Encode has changed the texts")
	}
}

func TestAnswersAreNewMemory(t *testing.T) {
	u := ownKeys(t)
	for _, e := range various {
		for _, m := range []mode.Modes{0, set(named[1:], 15)} {
			one := keys.Encode(e, m, 3, false, u)
			was, other := bytes.Clone(one), keys.Encode(e, m, 3, false, u)
			clear(one[:cap(one)])
			if third := keys.Encode(e, m, 3, false, u); !bytes.Equal(other, was) || !bytes.Equal(third, was) {
				t.Errorf("rule 5: %+v sends %q and %q, not %q", e, other, third, was)
			}
		}
	}
}

func TestNoTexts(t *testing.T) {
	for _, e := range []keys.Event{{Kind: keys.F, Code: 6, Shift: true}, {Kind: keys.F, Code: 6}, {Kind: keys.Up}} {
		got, want := keys.Encode(e, 0, 5, false, nil), keys.Encode(e, 0, 5, false, &udk.Keys{})
		if !bytes.Equal(got, want) {
			t.Errorf("P22.1: without keys %+v sends %q, not %q", e, got, want)
		}
	}
}

func TestExample(t *testing.T) {
	var u udk.Keys
	for _, x := range []struct {
		e    keys.Event
		m    mode.Modes
		want string
	}{
		{keys.Event{Kind: keys.Up}, 0, "\x1B[A"}, {keys.Event{Kind: keys.Up}, mode.Modes(0).With(mode.CKM, true), "\x1BOA"}, {keys.Event{Kind: keys.F, Code: 6}, mode.Begin(), "\x1B[17~"},
		{keys.Event{Kind: keys.Char, Code: 'c', Ctrl: true}, mode.Begin(), "\x03"}, {keys.Event{Kind: keys.Pad, Code: '5'}, mode.Modes(0).With(mode.NKM, true), "\x1BOu"},
	} {
		if got := keys.Encode(x.e, x.m, 5, false, &u); string(got) != x.want {
			t.Errorf("P22.1: %+v sends %q, not %q", x.e, got, x.want)
		}
	}
}
