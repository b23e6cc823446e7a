package term

import (
	"phosphor/api"
	"phosphor/curs"
	"phosphor/edit"
	"phosphor/gate"
	"phosphor/mode"
	"phosphor/page"
	"phosphor/rect"
)

// editing are the clauses of what changes cells that are there, or the sizes of lines.
func editing() clauses {
	return clauses{
		gate.ED:      erased(edit.Display, false),
		gate.DECSED:  erased(edit.Display, true),
		gate.EL:      erased(edit.Row, false),
		gate.DECSEL:  erased(edit.Row, true),
		gate.ECH:     turn.blank,
		gate.ICH:     edited(edit.InsertCells),
		gate.DCH:     edited(edit.DeleteCells),
		gate.IL:      edited(edit.InsertLines),
		gate.DL:      edited(edit.DeleteLines),
		gate.DECIC:   edited(edit.InsertColumns),
		gate.DECDC:   edited(edit.DeleteColumns),
		gate.SU:      scrolled(1, 0),
		gate.SD:      scrolled(-1, 0),
		gate.SL:      scrolled(0, 1),
		gate.SR:      scrolled(0, -1),
		gate.DECDHLT: sized(api.Upper),
		gate.DECDHLB: sized(api.Lower),
		gate.DECSWL:  sized(api.Single),
		gate.DECDWL:  sized(api.Wide),
		gate.DECALN:  turn.align,
		gate.DECFRA:  turn.fill,
		gate.DECERA:  rectErased(false),
		gate.DECSERA: rectErased(true),
		gate.DECCARA: rectChanged(false),
		gate.DECRARA: rectChanged(true),
		gate.DECCRA:  turn.copyRect,
	}
}

// erased erases some cells, or those of them that aren't kept.
func erased(by func(p *page.Page, c curs.Cursor, which int, selective bool) curs.Cursor, selective bool) clause {
	return func(x turn) {
		x.core.Cursor = by(x.book.Sheet(), x.core.Cursor, x.number(0), selective)
	}
}

func (x turn) blank() {
	x.core.Cursor = edit.Blank(x.book.Sheet(), x.core.Cursor, x.count(0))
}

// edited has a count of cells, lines or columns come or go.
func edited(by func(p *page.Page, c curs.Cursor, f curs.Frame, n int) curs.Cursor) clause {
	return func(x turn) {
		x.core.Cursor = by(x.book.Sheet(), x.core.Cursor, x.frame(), x.count(0))
	}
}

// scrolled scrolls the margins so many times a count of rows, and of columns.
func scrolled(rows, cols int) clause {
	return func(x turn) {
		edit.Scroll(x.book.Sheet(), x.frame(), rows*x.count(0), cols*x.count(0))
	}
}

// sized gives the cursor's line a size.
func sized(size int) clause {
	return func(x turn) {
		if x.core.Modes.Has(mode.LRMM) || x.book.OnStatus() {
			return
		}
		x.core.Cursor = edit.Size(x.book.Sheet(), x.core.Cursor, size)
	}
}

func (x turn) align() {
	if !x.book.OnStatus() {
		x.core.Frame.Margins = x.core.Frame.Page
	}
	x.home()
	edit.Align(x.book.Sheet())
}

// area is that within which the numbers of a rectangle count.
func (x turn) area(f curs.Frame) api.Box {
	return f.Area(x.core.Cursor.Origin)
}

// isCharacter: may a number be the code of one?
func isCharacter(n int) bool {
	return n >= 0x20 && n <= 0x7E || n >= 0xA0 && n <= 0xFF
}

func (x turn) fill() {
	n, c := x.number(0), x.core.Cursor
	if !isCharacter(n) {
		return
	}
	// The single set is for a character that is written: here it neither counts nor is used up.
	c.Sets.Single = 0
	if g, _ := c.Sets.Map(byte(n)); g != 0 {
		pen := api.Cell{Glyph: g, Rend: c.Rend, Kept: c.Kept}
		rect.Fill(x.book.Sheet(), x.area(x.frame()), x.Params, pen)
	}
}

// rectErased erases a rectangle.
func rectErased(selective bool) clause {
	return func(x turn) {
		rect.Erase(x.book.Sheet(), x.area(x.frame()), x.Params, selective)
	}
}

// rectChanged changes the renditions of one.
func rectChanged(flip bool) clause {
	return func(x turn) {
		rect.Change(x.book.Sheet(), x.area(x.frame()), x.Params, x.core.Stream, flip)
	}
}

func (x turn) copyRect() {
	if !x.book.OnStatus() {
		rect.Copy(x.book, x.area(x.core.Frame), x.Params)
	}
}
