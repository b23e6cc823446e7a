package term_test

import (
	"fmt"
	"slices"

	"phosphor/api"
	"phosphor/book"
	"phosphor/box"
	"phosphor/curs"
	"phosphor/edit"
	"phosphor/iso"
	"phosphor/line"
	"phosphor/macro"
	"phosphor/mode"
	"phosphor/page"
	"phosphor/param"
	"phosphor/parser"
	"phosphor/press"
	"phosphor/rect"
	"phosphor/rend"
	"phosphor/reply"
	"phosphor/state"
	"phosphor/tabs"
	"phosphor/token"
	"phosphor/udk"
)

// What follows tells by the document's words, apart from the package, what is done with a token. The page and the status line each have a hand here, which stays theirs wherever one looks.

// A hand is a cursor, and the one that was saved of it.
type hand struct {
	cursor curs.Cursor
	saved  *curs.Cursor
}

type model struct {
	rows, cols, pages int
	margins           api.Box
	modes             mode.Modes
	level             int
	eight, stream     bool
	status            int
	hands             [2]hand // of the page, of the status line
	now               int     // whose hand it is
	book              *book.Book
	stops             *tabs.Stops
	macros            *macro.Store
	texts             *udk.Keys
	last              rune // 0: none
	open, left        int
	answers           []byte
}

func newModel(rows, cols, pages int) *model {
	return &model{
		rows: rows, cols: cols, pages: pages,
		margins: box.Whole(rows, cols),
		modes:   mode.Begin(),
		level:   5,
		hands:   [2]hand{{cursor: curs.New()}, {cursor: curs.New()}},
		book:    book.New(pages, rows, cols),
		stops:   tabs.New(cols),
		macros:  &macro.Store{},
		texts:   &udk.Keys{},
	}
}

func (m *model) whole() api.Box {
	return api.Box{Bottom: m.rows, Right: m.cols}
}

func (m *model) core() state.Core {
	return state.Core{
		Cursor: m.hands[m.now].cursor,
		Frame:  curs.Frame{Page: m.whole(), Margins: m.margins},
		Modes:  m.modes, Level: m.level, Eight: m.eight, Stream: m.stream, Status: m.status,
		Below: m.now == 1, Page: m.book.Now(), Pages: m.pages,
	}
}

// frame is the box and the margins of what one looks at.
func (m *model) frame() curs.Frame {
	if m.now == 1 {
		line := api.Box{Bottom: 1, Right: m.cols}
		return curs.Frame{Page: line, Margins: line}
	}
	return curs.Frame{Page: m.whole(), Margins: m.margins}
}

// look is where one looks from now on: 0 the page, 1 the status line.
func (m *model) look(at int) {
	m.now = at
	m.book.Look(at == 1)
}

// keysAt are the functions that are there from a level on, but SCS: a sign for the kind, and the id.
var keysAt = map[int][]string{
	1: {"^07", "^05", "^08", "^09", "^0A", "^0B", "^0C", "^0D", "^0E", "^0F", "^1A", "ED", "EE", "EH", "EM", "EZ", "E7", "E8", "E=", "E>", "Ec", "E#3", "E#4", "E#5", "E#6", "E#8", "[A", "[B", "[C", "[D", "[H", "[J", "[K", "[L", "[M", "[P", "[c", "[f", "[g", "[h", "[l", "[?h", "[?l", "[m", "[n", "[r", "[\"p"},
	2: {"EN", "EO", "En", "Eo", "E~", "E}", "E|", "E F", "E G", "[@", "[S", "[T", "[X", "[>c", "[?n", "[?J", "[?K", "[!p", "[\"q", "P|"},
	3: {"[U", "[V", "[ P", "[ Q", "[ R", "[$p", "[?$p", "[$w", "[$u", "[$~", "[$}", "[$|", "[t", "P$q", "P$p", "P$t"},
	4: {"E6", "E9", "[=c", "[s", "[$r", "[$t", "[$v", "[$x", "[$z", "[${", "[*x", "[*y", "[*z", "['}", "['~", "P!z"},
	5: {"[E", "[F", "[G", "[I", "[Z", "[`", "[a", "[b", "[d", "[e", "[ @", "[ A"},
}

// since is the level of a function; 0, if there is none such.
func since(key string) int {
	for level, keys := range keysAt {
		if slices.Contains(keys, key) {
			return level
		}
	}
	return 0
}

func keyOf(t token.Token) string {
	switch t.Kind {
	case token.Ctrl:
		return fmt.Sprintf("^%02X", t.Code)
	case token.Esc:
		return "E" + token.Id(t)
	case token.Csi:
		return "[" + token.Id(t)
	case token.Dcs:
		return "P" + token.Id(t)
	}
	return ""
}

func (m *model) resize(rows, cols int) {
	m.rows, m.cols = rows, cols
	m.book.Resize(rows, cols)
	m.stops.Resize(cols)
	m.margins = m.whole()
	for i := range m.hands {
		c := &m.hands[i].cursor
		c.Row, c.Col, c.Wrap = min(c.Row, rows-1), min(c.Col, cols-1), false
	}
	m.settle()
}

func (m *model) settle() {
	c := &m.hands[m.now].cursor
	p := m.book.Sheet()
	c.Row = max(0, min(c.Row, p.Rows()-1))
	c.Col = max(0, min(c.Col, p.Cols()-1))
	if width := line.Width(p.Line(c.Row)); c.Col > width-1 {
		c.Col, c.Wrap = width-1, false
	}
	m.modes = m.modes.With(mode.OM, c.Origin)
}

// feed does the tokens of some bytes, none of which may be cut in two.
func (m *model) feed(stream string) {
	for _, t := range parser.Split([]byte(stream)) {
		m.do(t)
	}
}

func (m *model) do(t token.Token) {
	if t.Kind == token.Print {
		m.print(t.Code)
	} else if !m.designate(t) {
		if key := keyOf(t); since(key) != 0 && m.level >= since(key) {
			m.control(key)
			m.move(key, t.Params)
			m.edit(key, t.Params)
			m.area(key, t.Params)
			m.set(key, t.Params)
			m.status_(key, t.Params)
			m.answer(key, t.Params, string(t.Data))
			m.store(key, t.Params, string(t.Data))
		}
	}
	m.settle()
}

func (m *model) ways() press.Ways {
	return press.Ways{Wrap: m.modes.Has(mode.AWM), Insert: m.modes.Has(mode.IRM)}
}

func (m *model) glyph(g rune) {
	c := &m.hands[m.now].cursor
	*c = press.Glyph(m.book.Sheet(), *c, m.frame(), m.ways(), g)
}

func (m *model) print(code byte) {
	c := &m.hands[m.now].cursor
	var g rune
	if g, c.Sets = c.Sets.Map(code); g != 0 {
		m.glyph(g)
		m.last = g
	}
}

func (m *model) designate(t token.Token) bool {
	if t.Kind != token.Esc || t.Inters == "" || len(t.Inters) > 2 {
		return false
	}
	g, from, wide := 0, 1, false
	switch t.Inters[0] {
	case '(':
	case ')':
		g = 1
	case '*':
		g, from = 2, 2
	case '+':
		g, from = 3, 2
	case '-':
		g, from, wide = 1, 3, true
	case '.':
		g, from, wide = 2, 3, true
	case '/':
		g, from, wide = 3, 3, true
	default:
		return false
	}
	c := &m.hands[m.now].cursor
	if m.level >= from {
		c.Sets, _ = c.Sets.Designate(g, wide, t.Inters[1:]+string(rune(t.Code)))
	}
	return true
}

func (m *model) control(key string) {
	c, p, f := &m.hands[m.now].cursor, m.book.Sheet(), m.frame()
	switch key {
	case "^08":
		*c = c.Left(f, 1)
	case "^0A", "^0B", "^0C":
		if m.modes.Has(mode.LNM) {
			*c = press.Next(p, *c, f)
		} else {
			*c = press.Index(p, *c, f)
		}
	case "^0D":
		*c = c.Return(f)
	case "^0E":
		c.Sets.GL = 1
	case "^0F":
		c.Sets.GL = 0
	case "^1A":
		m.glyph(0x2E2E)
	case "ED":
		*c = press.Index(p, *c, f)
	case "EE":
		*c = press.Next(p, *c, f)
	case "EM":
		*c = press.Back(p, *c, f)
	case "E6":
		*c = press.Aside(p, *c, f)
	case "E9":
		*c = press.Ahead(p, *c, f)
	case "EN":
		c.Sets.Single = 2
	case "EO":
		c.Sets.Single = 3
	case "En":
		c.Sets.GL = 2
	case "Eo":
		c.Sets.GL = 3
	case "E~":
		c.Sets.GR = 1
	case "E}":
		c.Sets.GR = 2
	case "E|":
		c.Sets.GR = 3
	case "E7":
		saved := *c
		m.hands[m.now].saved = &saved
	case "E8":
		*c = curs.New()
		if saved := m.hands[m.now].saved; saved != nil {
			*c = *saved
		}
	case "E=":
		m.modes = m.modes.With(mode.NKM, true)
	case "E>":
		m.modes = m.modes.With(mode.NKM, false)
	case "Ec":
		fresh := newModel(m.rows, m.cols, m.pages)
		fresh.open, fresh.left, fresh.answers = m.open, m.left, m.answers
		*m = *fresh
	case "E F":
		m.eight = false
	case "E G":
		m.eight = true
	case "E#3", "E#4", "E#5", "E#6":
		if m.now == 0 && !m.modes.Has(mode.LRMM) {
			*c = edit.Size(p, *c, map[string]int{"E#3": api.Upper, "E#4": api.Lower, "E#5": api.Single, "E#6": api.Wide}[key])
		}
	case "E#8":
		if m.now == 0 {
			m.margins = m.whole()
		}
		*c = c.To(m.frame(), 0, 0)
		edit.Align(p)
	}
}

func (m *model) move(key string, list []int) {
	c, f := &m.hands[m.now].cursor, m.frame()
	n, second := param.Get(list, 0, 1), param.Get(list, 1, 1)
	switch key {
	case "[A":
		*c = c.Up(f, n)
	case "[B", "[e":
		*c = c.Down(f, n)
	case "[C", "[a":
		*c = c.Right(f, n)
	case "[D":
		*c = c.Left(f, n)
	case "[E":
		*c = c.Down(f, n).Return(f)
	case "[F":
		*c = c.Up(f, n).Return(f)
	case "[G", "[`":
		*c = c.ToCol(f, n-1)
	case "[d":
		*c = c.ToRow(f, n-1)
	case "[H", "[f":
		*c = c.To(f, n-1, second-1)
	case "^09", "[I":
		last := m.cols - 1
		if c.Col < f.Margins.Right {
			last = f.Margins.Right - 1
		}
		c.Col, c.Wrap = min(m.stops.Next(c.Col, n), last), false
	case "[Z":
		first := 0
		if c.Col >= f.Margins.Left {
			first = f.Margins.Left
		}
		c.Col, c.Wrap = max(m.stops.Back(c.Col, n), first), false
	case "EH":
		m.stops.Set(c.Col)
	case "[g":
		if at := param.Raw(list, 0); at == 0 {
			m.stops.Clear(c.Col)
		} else if at == 3 {
			m.stops.ClearAll()
		}
	case "[U", "[V", "[ P", "[ Q", "[ R":
		if m.now == 1 {
			return
		}
		m.book.Turn(map[string]int{"[U": m.book.Now() + n, "[V": m.book.Now() - n, "[ P": n - 1, "[ Q": m.book.Now() + n, "[ R": m.book.Now() - n}[key])
		c.Wrap = false
		if key == "[U" || key == "[V" {
			*c = c.To(f, 0, 0)
		}
	}
}

func (m *model) edit(key string, list []int) {
	c, p, f := &m.hands[m.now].cursor, m.book.Sheet(), m.frame()
	n, n0 := param.Get(list, 0, 1), param.Raw(list, 0)
	switch key {
	case "[J", "[?J":
		*c = edit.Display(p, *c, n0, key == "[?J")
	case "[K", "[?K":
		*c = edit.Row(p, *c, n0, key == "[?K")
	case "[X":
		*c = edit.Blank(p, *c, n)
	case "[@":
		*c = edit.InsertCells(p, *c, f, n)
	case "[P":
		*c = edit.DeleteCells(p, *c, f, n)
	case "[L":
		*c = edit.InsertLines(p, *c, f, n)
	case "[M":
		*c = edit.DeleteLines(p, *c, f, n)
	case "['}":
		*c = edit.InsertColumns(p, *c, f, n)
	case "['~":
		*c = edit.DeleteColumns(p, *c, f, n)
	case "[S":
		edit.Scroll(p, f, n, 0)
	case "[T":
		edit.Scroll(p, f, -n, 0)
	case "[ @":
		edit.Scroll(p, f, 0, n)
	case "[ A":
		edit.Scroll(p, f, 0, -n)
	case "[b":
		if m.last != 0 {
			*c = press.Text(p, *c, f, m.ways(), slices.Repeat([]rune{m.last}, min(n, m.cols))...)
		}
	}
}

func (m *model) area(key string, list []int) {
	c, p := m.hands[m.now].cursor, m.book.Sheet()
	area := m.frame().Area(c.Origin)
	pages := curs.Frame{Page: m.whole(), Margins: m.margins}.Area(c.Origin)
	n0 := param.Raw(list, 0)
	switch key {
	case "[$x":
		if n0 >= 0x20 && n0 <= 0x7E || n0 >= 0xA0 && n0 <= 0xFF {
			sets := c.Sets
			sets.Single = 0
			if g, _ := sets.Map(byte(n0)); g != 0 {
				rect.Fill(p, area, list, api.Cell{Glyph: g, Rend: c.Rend, Kept: c.Kept})
			}
		}
	case "[$z", "[${":
		rect.Erase(p, area, list, key == "[${")
	case "[$r", "[$t":
		rect.Change(p, area, list, m.stream, key == "[$t")
	case "[$v":
		if m.now == 0 {
			rect.Copy(m.book, pages, list)
		}
	case "[*y":
		var rest []int
		if len(list) > 0 {
			rest = list[1:]
		}
		if sum, ok := rect.Sum(m.book, pages, rest); ok {
			m.answers = append(m.answers, reply.Sum(m.eight, n0, sum)...)
		}
	case "[*x":
		if n0 < 2 {
			m.stream = true
		} else if n0 == 2 {
			m.stream = false
		}
	}
}

func (m *model) soft() {
	h := &m.hands[m.now]
	h.saved = nil
	h.cursor = curs.Cursor{Pos: h.cursor.Pos, Sets: iso.New()}
	m.margins = m.whole()
	m.modes = m.modes.With(mode.KAM, false).With(mode.IRM, false).With(mode.CKM, false).With(mode.OM, false).With(mode.NKM, false)
	m.modes = m.modes.With(mode.TCEM, true).With(mode.AWM, true)
}

func (m *model) set(key string, list []int) {
	c := &m.hands[m.now].cursor
	n0, m0 := param.Raw(list, 0), param.Raw(list, 1)
	switch key {
	case "[h", "[l", "[?h", "[?l":
		on, dec := key[len(key)-1] == 'h', key[1] == '?'
		for _, n := range list {
			m.mode(dec, n, on)
		}
	case "[m":
		c.Rend = rend.Apply(c.Rend, list...)
	case "[\"q":
		if n0 <= 2 {
			c.Kept = n0 == 1
		}
	case "[r":
		if from, below, ok := box.Span(m.rows, n0, m0); ok && m.now == 0 {
			m.margins.Top, m.margins.Bottom = from, below
			*c = c.To(m.frame(), 0, 0)
		}
	case "[s":
		if from, below, ok := box.Span(m.cols, n0, m0); ok && m.now == 0 && m.modes.Has(mode.LRMM) {
			m.margins.Left, m.margins.Right = from, below
			*c = c.To(m.frame(), 0, 0)
		}
	case "[!p":
		m.soft()
	case "[\"p":
		if n0 >= 61 && n0 <= 65 {
			m.level = n0 - 60
			m.eight = m.level > 1 && m0 != 1
			m.soft()
		}
	}
}

func (m *model) mode(dec bool, n int, on bool) {
	x, ok := mode.Find(dec, n, m.level)
	if !ok {
		return
	}
	m.modes = m.modes.With(x, on)
	c := &m.hands[m.now].cursor
	switch {
	case x == mode.OM:
		c.Origin = on
		*c = c.To(m.frame(), 0, 0)
	case x == mode.LRMM && on:
		for n := range m.pages {
			single(m.book.Page(n))
		}
	case x == mode.LRMM:
		m.margins.Left, m.margins.Right = 0, m.cols
	}
}

func single(p *page.Page) {
	for row := range p.Rows() {
		l := p.Line(row)
		l.Size = api.Single
		p.SetLine(row, l)
	}
}

func (m *model) status_(key string, list []int) {
	n0 := param.Raw(list, 0)
	switch key {
	case "[$~":
		if n0 > 2 {
			return
		}
		m.status = n0
		if n0 != 2 {
			m.look(0)
			m.book.Status().Fill(m.book.Status().Box(), api.Cell{Glyph: ' '})
		}
	case "[$}":
		if n0 == 0 {
			m.look(0)
		} else if n0 == 1 && m.status == 2 {
			m.look(1)
		}
	case "[$|":
		if n0 == 0 {
			n0 = 80
		}
		if m.now == 0 && (n0 == 80 || n0 == 132) {
			m.resize(m.rows, n0)
		}
	case "[t":
		if m.now == 0 && slices.Contains([]int{24, 25, 36, 48, 72, 144}, n0) {
			m.resize(n0, m.cols)
		}
	}
}

func (m *model) answer(key string, list []int, data string) {
	n0, m0 := param.Raw(list, 0), param.Raw(list, 1)
	c := m.hands[m.now].cursor
	area := m.frame().Area(c.Origin)
	place := func(page int) []byte { return reply.Place(m.eight, c.Row-area.Top, c.Col-area.Left, page) }
	var b []byte
	switch {
	case key == "EZ", key == "[c" && n0 == 0:
		b = reply.First(m.eight, m.level)
	case key == "[>c" && n0 == 0:
		b = reply.Second(m.eight)
	case key == "[=c" && n0 == 0:
		b = reply.Third(m.eight)
	case key == "[n" && n0 == 5:
		b = reply.Csi(m.eight, "n", 0)
	case key == "[n" && n0 == 6:
		b = place(-1)
	case key == "[?n":
		b = m.more(n0, m0, place)
	case key == "[$p", key == "[?$p":
		b = reply.Mode(m.eight, key == "[?$p", n0, m.modes.Ask(key == "[?$p", n0, m.level))
	case key == "[$w" && n0 == 1:
		b = reply.Dcs(m.eight, "$u", m.core().Cursor_(), 1)
	case key == "[$w" && n0 == 2:
		b = reply.Dcs(m.eight, "$u", m.stops.Report(), 2)
	case key == "[$u" && n0 == 1:
		b = reply.Dcs(m.eight, "$s", m.core().Report(), 1)
	case key == "P$q":
		b = reply.Dcs(m.eight, "$r", "", 0)
		if s, ok := m.core().Setting(data); ok {
			b = reply.Dcs(m.eight, "$r", s, 1)
		}
	}
	m.answers = append(m.answers, b...)
}

func (m *model) more(n0, m0 int, place func(page int) []byte) []byte {
	switch n0 {
	case 6:
		return place(m.book.Now())
	case 15:
		return reply.Csi(m.eight, "?n", 13)
	case 25:
		if m.texts.Locked() {
			return reply.Csi(m.eight, "?n", 21)
		}
		return reply.Csi(m.eight, "?n", 20)
	case 26:
		return reply.Csi(m.eight, "?n", 27, 1, 0, 0)
	case 62:
		return reply.Csi(m.eight, "*{", m.macros.Space()/16)
	case 63:
		return reply.Sum(m.eight, m0, m.macros.Sum())
	case 75:
		return reply.Csi(m.eight, "?n", 70)
	case 85:
		return reply.Csi(m.eight, "?n", 83)
	}
	return nil
}

func (m *model) store(key string, list []int, data string) {
	n0, m0, third := param.Raw(list, 0), param.Raw(list, 1), param.Raw(list, 2)
	switch key {
	case "P!z":
		if m0 <= 1 && third <= 1 {
			m.macros.Define(n0, m0 == 1, third == 1, data)
		}
	case "P|":
		m.texts.Define(n0 == 0, m0 == 0, data)
	case "P$t":
		if n0 == 2 {
			m.stops.Restore(data)
		} else if n0 == 1 {
			if core, e := m.core().SetCursor(data); e == api.OK {
				m.hands[m.now].cursor = core.Cursor
				m.book.Turn(core.Page)
			}
		}
	case "P$p":
		core, e := m.core().Restore(data)
		if n0 != 1 || e != api.OK {
			return
		}
		m.hands[m.now].cursor = core.Cursor
		m.margins, m.modes, m.level = core.Frame.Margins, core.Modes, core.Level
		m.eight, m.stream, m.status = core.Eight, core.Stream, core.Status
		m.look(0)
		if core.Below && core.Status == 2 {
			m.look(1)
		}
		if !m.modes.Has(mode.LRMM) {
			m.margins.Left, m.margins.Right = 0, m.cols
		}
	case "[*z":
		m.call(n0)
	}
}

func (m *model) call(n int) {
	text, ok := m.macros.Get(n)
	if m.open == 0 {
		m.left = 16384
	}
	if !ok || m.open >= 16 || len(text) > m.left {
		return
	}
	m.left -= len(text)
	m.open++
	m.feed(text)
	m.open--
}
