package term_test

import (
	"bytes"
	"fmt"
	"math/rand"
	"slices"
	"strings"
	"testing"

	"phosphor/api"
	"phosphor/book"
	"phosphor/line"
	"phosphor/parser"
	"phosphor/term"
)

// compare holds a terminal against the model of one.
func (m *model) compare(u *term.Terminal) string {
	aside := m.hands[1-m.now].cursor
	saved, is := u.Saved()
	var wanted hand
	if m.hands[m.now].saved != nil {
		wanted.cursor = *m.hands[m.now].saved
	}
	switch {
	case u.Core() != m.core():
		return fmt.Sprintf("core %+v, not %+v", u.Core(), m.core())
	case u.Aside() != aside:
		return fmt.Sprintf("aside %+v, not %+v", u.Aside(), aside)
	case is != (m.hands[m.now].saved != nil) || saved != wanted.cursor:
		return fmt.Sprintf("saved %+v, %v, not %+v", saved, is, wanted.cursor)
	case !u.Book().Same(m.book):
		return fmt.Sprintf("pages %q, not %q", pagesOf(u.Book()), pagesOf(m.book))
	case !slices.Equal(u.Tabs(), m.stops.List()):
		return fmt.Sprintf("stops %v, not %v", u.Tabs(), m.stops.List())
	case !u.Macros().Same(m.macros):
		return fmt.Sprintf("macros %v, not %v", u.Macros().Ids(), m.macros.Ids())
	case !u.Keys().Same(m.texts):
		return fmt.Sprintf("keys %v, not %v", u.Keys().Ids(), m.texts.Ids())
	}
	return ""
}

// pagesOf are the glyphs of all pages and of the status line.
func pagesOf(b *book.Book) []string {
	var list []string
	for n := range b.Count() {
		list = append(list, glyphsOf(b.Page(n)))
	}
	return append(list, glyphsOf(b.Status()))
}

// A source makes bytes of the host by chance, most of which mean something.
type source struct {
	*rand.Rand
}

func (s source) one(list ...string) string {
	return list[s.Intn(len(list))]
}

// numbers are those of a sequence: mostly few and small.
func (s source) numbers() string {
	var list []string
	for range s.Intn(4) {
		switch s.Intn(12) {
		case 0:
			list = append(list, "")
		case 1:
			list = append(list, s.one("99", "65535", "99999", "255", "32", "127", "160"))
		default:
			list = append(list, fmt.Sprint(s.Intn(8)))
		}
	}
	return strings.Join(list, ";")
}

// place are the numbers of rectangles and places, in any order.
func (s source) place(count int) string {
	var list []string
	for range count {
		list = append(list, fmt.Sprint(s.Intn(6)))
	}
	return strings.Join(list, ";")
}

func (s source) key() string {
	for {
		for _, keys := range keysAt {
			if s.Intn(3) == 0 {
				return keys[s.Intn(len(keys))]
			}
		}
	}
}

const (
	esc = "\x1b"
	st  = "\x1b\\"
)

// some are functions that say more with other numbers than those of any sequence.
func (s source) some() string {
	switch s.Intn(29) {
	case 0, 1:
		return esc + "[?" + s.one("6", "69", "7", "1", "25", "6;69", "69;6", "66", "5;99", "42", "95", "0", "") + s.one("h", "l")
	case 2:
		return esc + "[" + s.one("4", "20", "2", "12", "4;20", "1", "") + s.one("h", "l")
	case 3, 4:
		return esc + "[" + s.place(2) + s.one("r", "s", "s", "H", "H")
	case 5, 6:
		return esc + "[" + s.one("65", "88", "233", "32", "35") + ";" + s.place(4) + "$x"
	case 7:
		return esc + "[" + s.place(4) + s.one("$z", "${")
	case 8, 9:
		return esc + "[" + s.place(4) + ";" + s.one("0", "1", "4;7", "22", "5;8") + s.one("$r", "$t")
	case 10, 11:
		return esc + "[" + s.place(8) + "$v"
	case 12:
		return esc + "[" + s.place(6) + "*y"
	case 13:
		return esc + "[" + s.one("5", "6", "1") + "n" + esc + "[?" + s.one("6", "15", "25", "26", "62", "63;9", "75", "85", "5") + "n"
	case 14:
		return esc + "[" + s.one("2$~", "2$~", "1$~", "0$~", "3$~", "1$}", "1$}", "1$}", "0$}", "2$}", "$}")
	case 15:
		return esc + "P" + s.one("0", "1", "2", "63", "64", "") + ";" + s.one("0", "0", "0", "1", "2") + ";" + s.one("0", "1", "2") + "!z" + s.text() + st
	case 16, 17:
		return esc + "P" + s.one("0", "1", "2") + ";0;0!z" + s.one("", "ab", "xyz\r\n", "kk\b\t") + st + esc + "[" + s.one("0", "1", "2") + "*z"
	case 18:
		return esc + "P" + s.numbers() + "|" + s.one("17/41", "18/4243;34/61", "17/", "22/41", "", "23/5") + st
	case 19:
		return esc + "P1$t" + s.one("1;1;1;@;@;@;0;2;@;BB%5%5", "2;3;2;A;A;I;1;3;@;00AA", "9;9;9;_;@;A;0;2;L;BBAA", "2;2;1;@;@;B;0;1;@;BB%5%5", "1;1;1", "", "0;0;0;H;@;@;3;2;@;0AB4") + st
	case 20:
		return esc + "P" + s.one("1", "1", "1", "2", "") + "$p" + s.one("5;0;0;2948;0;0;0;0;0;2;2;0", "5;0;8;2948;1;2;1;0;1;2;3;0", "4;1;8;2948;0;2;1;0;0;1;2;1", "3;0;0;128;1;1;1;0;0;2;2;1", "5;0;0;2948;0;0;0;0;0;99;2;0", "1", "5;0;0;2884;0;0;0;0;1;1;2;1") + st
	case 21:
		return esc + "P2$t" + s.one("1/3/5", "", "2//3", "99/4", "7") + st
	case 22:
		return esc + "P$q" + s.one("m", "r", "s", "\"q", "\"p", "*x", "t", "$|", "$~", "$}", "", "n", "mm") + st
	case 23:
		return esc + "[" + s.one("1", "2", "3", "") + s.one("$w", "$u", "*x", "\"q", "c", ">c", "=c", "g")
	case 24:
		return esc + "[" + s.one("61", "62", "62;1", "63;0", "64;2", "65", "65;1", "65;1", "65", "60", "66", "0") + "\"p"
	case 25:
		return esc + s.one("(", ")", "*", "+", "-", ".", "/", "(%", ")%") + s.one("B", "0", "A", "5", "<", ">", "K", "=", "!", "\"5", "6") + s.one("", "\x0e", esc+"n", esc+"|", esc+"N", esc+"O")
	case 26:
		return s.one(esc+"7", esc+"8", esc+"#3", esc+"#6", esc+"#6", esc+"#5", esc+"#8")
	case 27:
		return esc + "[" + s.one("7", "1;4", "0", "", "24;5", "22") + "m" + esc + "[" + s.one("0", "1", "2", "3") + "\"q"
	}
	return esc + "[" + s.one("1", "2", "", "3") + s.one(" P", " Q", " R", "U", "V")
}

// text is what a macro may say.
func (s source) text() string {
	return s.one("", "6162", "ab", "a"+"\n"+"b", "!3;41", "4g", "1b5b322a7a", "1b5b302a7a41", "1b63", "1b5b313b3148")
}

func (s source) print() string {
	var b []byte
	for range s.Intn(4) {
		switch s.Intn(10) {
		case 0:
			b = append(b, byte(0xA0+s.Intn(96)))
		case 1:
			b = append(b, byte(s.Intn(256)))
		default:
			b = append(b, byte(0x20+s.Intn(95)))
		}
	}
	return string(b)
}

// rare are functions behind which little is left to see.
func (s source) rare(key string) bool {
	switch key {
	case "Ec", "E#8", "[\"p", "[$|", "[t", "[!p", "[$~":
		return s.Intn(10) != 0
	}
	return false
}

func (s source) piece() string {
	switch s.Intn(5) {
	case 0:
		return s.print()
	case 1:
		return s.some()
	case 2:
		return s.one("\r", "\n", "\r\n", "\t", "\b", "\x0b", "\x0c", "\x0e", "\x0f", "\x1a", "\x18", "\x07", "\x05", "\x84", "\x85", "\x88", "\x8d", "\x8e", "\x8f", "\x00")
	}
	key := s.key()
	if s.rare(key) {
		return s.print()
	}
	id := key[1:]
	switch key[0] {
	case '^':
		return s.one("\x07", "\x05", "\x08", "\x09", "\x0a", "\x0d", "\x1a")
	case 'E':
		return esc + id
	case 'P':
		return esc + "P" + s.numbers() + id + s.text() + st
	}
	if id[0] == '?' || id[0] == '>' || id[0] == '=' {
		return esc + "[" + id[:1] + s.numbers() + id[1:]
	}
	return esc + "[" + s.numbers() + id
}

// stream is so many pieces, some of them with controls of eight bits.
func (s source) stream(pieces int) string {
	var b strings.Builder
	for range pieces {
		piece := s.piece()
		if s.Intn(4) == 0 {
			piece = strings.NewReplacer(esc+"[", "\x9b", esc+"P", "\x90", st, "\x9c").Replace(piece)
		}
		b.WriteString(piece)
	}
	return b.String()
}

func (s source) size() (int, int, int) {
	return 1 + s.Intn(5), 1 + s.Intn(9), 1 + s.Intn(3)
}

func fresh(t *testing.T, rows, cols, pages int) *term.Terminal {
	t.Helper()
	u, e := term.New(rows, cols, pages)
	if e != api.OK || u == nil {
		t.Fatalf("New(%d, %d, %d) = %d", rows, cols, pages, e)
	}
	return u
}

// P24.1: whatever comes, behind every token all is as the model has it, and so is what is answered.
func TestAsTheModel(t *testing.T) {
	for seed := range int64(1500) {
		s := source{rand.New(rand.NewSource(seed))}
		rows, cols, pages := s.size()
		u, m := fresh(t, rows, cols, pages), newModel(rows, cols, pages)
		for _, k := range parser.Split([]byte(s.stream(200))) {
			b, _ := k.Bytes(s.Intn(2) == 0)
			m.answers = nil
			m.do(k)
			if got := u.Feed(b); !bytes.Equal(got, m.answers) {
				t.Fatalf("seed %d: %q: answered %q, not %q", seed, b, got, m.answers)
			}
			if wrong := m.compare(u); wrong != "" {
				t.Fatalf("seed %d: %q: %s", seed, b, wrong)
			}
			if s.Intn(150) == 0 {
				rows, cols = 1+s.Intn(6), 1+s.Intn(10)
				m.resize(rows, cols)
				if e := u.Resize(rows, cols); e != api.OK {
					t.Fatalf("Resize(%d, %d) = %d", rows, cols, e)
				}
				if wrong := m.compare(u); wrong != "" {
					t.Fatalf("seed %d: Resize(%d, %d): %s", seed, rows, cols, wrong)
				}
			}
		}
	}
}

// P24.2: however a stream is cut, the answers together are the same, and so is the terminal.
func TestChunks(t *testing.T) {
	for seed := range int64(400) {
		s := source{rand.New(rand.NewSource(seed))}
		rows, cols, pages := s.size()
		stream := []byte(s.stream(80))
		stream = stream[:s.Intn(len(stream)+1)] // what has begun may not have ended
		whole := fresh(t, rows, cols, pages)
		answers := whole.Feed(stream)
		for _, most := range []int{1, 2, 7, 50} {
			cut := fresh(t, rows, cols, pages)
			var got []byte
			for rest := stream; len(rest) > 0; {
				n := min(s.Intn(most+1), len(rest)) // now and then an empty piece
				got = append(got, cut.Feed(rest[:n])...)
				rest = rest[n:]
			}
			if !bytes.Equal(got, answers) || !cut.Same(whole) || !whole.Same(cut) || cut.Idle() != whole.Idle() {
				t.Fatalf("seed %d: pieces of up to %d: %q, not %q", seed, most, got, answers)
			}
		}
	}
}

// P24.3, P24.4: the cursor is on its sheet, and within the width of its row; margins are on the page.
func TestInside(t *testing.T) {
	for seed := range int64(400) {
		s := source{rand.New(rand.NewSource(1000 + seed))}
		u := fresh(t, 1+s.Intn(5), 1+s.Intn(9), 1+s.Intn(3))
		for range 150 {
			if s.Intn(60) == 0 {
				u.Resize(1+s.Intn(6), 1+s.Intn(10))
			}
			u.Feed([]byte(s.piece()))
			c, b := u.Core(), u.Book()
			p := b.Sheet()
			if at := c.Cursor; at.Row < 0 || at.Row >= p.Rows() || at.Col < 0 || at.Col >= line.Width(p.Line(at.Row)) {
				t.Fatalf("seed %d: the cursor at %d, %d", seed, at.Row, at.Col)
			}
			rows, cols := b.Size()
			f := c.Frame
			if m := f.Margins; m.Top < 0 || m.Top >= m.Bottom || m.Bottom > rows || m.Left < 0 || m.Left >= m.Right || m.Right > cols {
				t.Fatalf("seed %d: margins %+v", seed, m)
			}
			if f.Page != (api.Box{Bottom: rows, Right: cols}) || c.Pages != b.Count() || c.Page != b.Now() || c.Below != b.OnStatus() {
				t.Fatalf("seed %d: core %+v", seed, c)
			}
			if at := u.Aside(); at.Row < 0 || at.Row >= rows || at.Col < 0 || at.Col >= cols {
				t.Fatalf("seed %d: aside at %d, %d", seed, at.Row, at.Col)
			}
		}
	}
}
