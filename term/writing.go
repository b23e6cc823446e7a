package term

import (
	"phosphor/book"
	"phosphor/curs"
	"phosphor/gate"
	"phosphor/iso"
	"phosphor/mode"
	"phosphor/page"
	"phosphor/press"
)

const broken = 0x2E2E // the glyph of a character that came to harm

// What TBC clears.
const (
	stopHere = 0
	allStops = 3
)

// writing are the clauses of what is written, and of the sets and stops by which that is done.
func writing() clauses {
	return clauses{
		gate.BS:    moved(curs.Cursor.Left),
		gate.HT:    turn.nextStop,
		gate.CHT:   turn.nextStop,
		gate.CBT:   turn.stopBack,
		gate.LF:    turn.feed,
		gate.VT:    turn.feed,
		gate.FF:    turn.feed,
		gate.CR:    turn.goBack,
		gate.IND:   fed(press.Index),
		gate.NEL:   fed(press.Next),
		gate.RI:    fed(press.Back),
		gate.DECBI: fed(press.Aside),
		gate.DECFI: fed(press.Ahead),
		gate.SO:    invoked(iso.State.Left, 1),
		gate.SI:    invoked(iso.State.Left, 0),
		gate.LS2:   invoked(iso.State.Left, 2),
		gate.LS3:   invoked(iso.State.Left, 3),
		gate.LS1R:  invoked(iso.State.Right, 1),
		gate.LS2R:  invoked(iso.State.Right, 2),
		gate.LS3R:  invoked(iso.State.Right, 3),
		gate.SS2:   invoked(iso.State.Once, 2),
		gate.SS3:   invoked(iso.State.Once, 3),
		gate.SCS:   turn.designate,
		gate.SUB:   turn.substitute,
		gate.REP:   turn.repeat,
		gate.HTS:   turn.setStop,
		gate.TBC:   turn.clearStops,
	}
}

// moving are the clauses of what moves the cursor, or turns to another page.
func moving() clauses {
	return clauses{
		gate.CUU:   moved(curs.Cursor.Up),
		gate.CUD:   moved(curs.Cursor.Down),
		gate.CUF:   moved(curs.Cursor.Right),
		gate.CUB:   moved(curs.Cursor.Left),
		gate.HPR:   moved(curs.Cursor.Right),
		gate.VPR:   moved(curs.Cursor.Down),
		gate.CNL:   movedBack(curs.Cursor.Down),
		gate.CPL:   movedBack(curs.Cursor.Up),
		gate.CHA:   moved(toCol),
		gate.HPA:   moved(toCol),
		gate.VPA:   moved(toRow),
		gate.CUP:   turn.goTo,
		gate.HVP:   turn.goTo,
		gate.DECSC: turn.save,
		gate.DECRC: turn.bringBack,
		gate.NP:    turned((*book.Book).Step, (*parts).home),
		gate.PP:    turned(stepBack, (*parts).home),
		gate.PPA:   turned(turnTo, (*parts).unwrap),
		gate.PPR:   turned((*book.Book).Step, (*parts).unwrap),
		gate.PPB:   turned(stepBack, (*parts).unwrap),
	}
}

// moved moves the cursor by a count.
func moved(by func(c curs.Cursor, f curs.Frame, n int) curs.Cursor) clause {
	return func(x turn) {
		x.core.Cursor = by(x.core.Cursor, x.frame(), x.count(0))
	}
}

// movedBack moves it, and then to the first column.
func movedBack(by func(c curs.Cursor, f curs.Frame, n int) curs.Cursor) clause {
	move := moved(by)
	return func(x turn) {
		move(x)
		x.goBack()
	}
}

func toCol(c curs.Cursor, f curs.Frame, n int) curs.Cursor {
	return c.ToCol(f, n-1)
}

func toRow(c curs.Cursor, f curs.Frame, n int) curs.Cursor {
	return c.ToRow(f, n-1)
}

func (x turn) goTo() {
	x.core.Cursor = x.core.Cursor.To(x.frame(), x.count(0)-1, x.count(1)-1)
}

func (x turn) goBack() {
	x.core.Cursor = x.core.Cursor.Return(x.frame())
}

// goToStop brings the cursor to a column at which there is a stop, or beyond which there is none.
func (x turn) goToStop(col int) {
	x.core.Cursor.Col = col
	x.unwrap()
}

func (x turn) nextStop() {
	col, margin := x.core.Cursor.Col, x.frame().Inner().Right-1
	most := x.frame().Whole().Right - 1
	if col <= margin {
		most = margin
	}
	x.goToStop(min(x.stops.Next(col, x.count(0)), most))
}

func (x turn) stopBack() {
	col, margin := x.core.Cursor.Col, x.frame().Inner().Left
	least := 0
	if col >= margin {
		least = margin
	}
	x.goToStop(max(x.stops.Back(col, x.count(0)), least))
}

func (x turn) setStop() {
	x.stops.Set(x.core.Cursor.Col)
}

func (x turn) clearStops() {
	switch x.number(0) {
	case stopHere:
		x.stops.Clear(x.core.Cursor.Col)
	case allStops:
		x.stops.ClearAll()
	}
}

func (x turn) save() {
	x.saved = copied(&x.core.Cursor)
}

func (x turn) bringBack() {
	x.core.Cursor = curs.New()
	if x.saved != nil {
		x.core.Cursor = *x.saved
	}
}

func (p *parts) unwrap() {
	p.core.Cursor.Wrap = false
}

// turned turns to another page by a count, and does something with the cursor there.
func turned(turnBy func(b *book.Book, n int), then func(p *parts)) clause {
	return func(x turn) {
		if x.book.OnStatus() {
			return
		}
		turnBy(x.book, x.count(0))
		x.core.Page = x.book.Now()
		then(&x.parts)
	}
}

func stepBack(b *book.Book, n int) {
	b.Step(-n)
}

func turnTo(b *book.Book, n int) {
	b.Turn(n - 1)
}

// print writes a character, if it has a glyph.
func (x turn) print() {
	g, sets := x.core.Cursor.Sets.Map(x.Code)
	x.core.Cursor.Sets = sets
	if g != 0 {
		x.glyph(g)
		x.last = &g
	}
}

func (x turn) glyph(g rune) {
	x.core.Cursor = press.Glyph(x.book.Sheet(), x.core.Cursor, x.frame(), x.ways(), g)
}

func (x turn) substitute() {
	x.glyph(broken)
}

func (x turn) repeat() {
	if x.last == nil {
		return
	}
	var text []rune
	for range min(x.count(0), x.book.Sheet().Cols()) {
		text = append(text, *x.last)
	}
	x.core.Cursor = press.Text(x.book.Sheet(), x.core.Cursor, x.frame(), x.ways(), text...)
}

// fed feeds a line, or a column.
func fed(by func(p *page.Page, c curs.Cursor, f curs.Frame) curs.Cursor) clause {
	return func(x turn) {
		x.core.Cursor = by(x.book.Sheet(), x.core.Cursor, x.frame())
	}
}

func (x turn) feed() {
	by := press.Index
	if x.core.Modes.Has(mode.LNM) {
		by = press.Next
	}
	fed(by)(x)
}

// invoked invokes one of the four sets that are designated.
func invoked(by func(s iso.State, g int) iso.State, g int) clause {
	return func(x turn) {
		x.core.Cursor.Sets = by(x.core.Cursor.Sets, g)
	}
}

func (x turn) designate() {
	g, wide, id, _ := gate.Set(x.Token)
	x.core.Cursor.Sets, _ = x.core.Cursor.Sets.Designate(g, wide, id)
}
