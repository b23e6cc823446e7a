package term

import (
	"phosphor/api"
	"phosphor/curs"
	"phosphor/gate"
	"phosphor/mode"
	"phosphor/param"
	"phosphor/parser"
	"phosphor/press"
	"phosphor/reply"
	"phosphor/token"
)

// run is a terminal while it is fed.
type run struct {
	*Terminal
	clauses clauses
	open    int // calls of macros
	left    int // how many bytes may still be called within the one that the host made
	answers []byte
}

// turn is a run, and the token with which it does something.
type turn struct {
	*run
	token.Token
}

// clause is what is done with a function's token.
type clause func(x turn)

// clauses are those of all functions, each at its function's number.
type clauses [gate.SCS + 1]clause

// allClauses are put together from those of functions that are alike. A function that has none does nothing.
func allClauses() clauses {
	var all clauses
	for _, some := range [...]clauses{writing(), moving(), editing(), setting(), storing(), telling()} {
		for f, do := range some {
			if do != nil {
				all[f] = do
			}
		}
	}
	return all
}

// doAll does tokens, one behind the other.
func (r *run) doAll(tokens []token.Token) {
	for _, t := range tokens {
		turn{r, t}.do()
		r.settle()
	}
}

func (x turn) do() {
	if x.Kind == token.Print {
		x.print()
		return
	}
	f, ok := gate.Find(x.Token, x.core.Level)
	if do := x.clauses[f]; ok && do != nil {
		do(x)
	}
}

// number is the one at a place; 0, if there is none.
func (x turn) number(i int) int {
	return param.Raw(x.Params, i)
}

// count is the number at a place, where that is one of rows, columns, times: never 0.
func (x turn) count(i int) int {
	return param.Get(x.Params, i, 1)
}

// frame is that of the sheet.
func (p *parts) frame() curs.Frame {
	if p.book.OnStatus() {
		whole := p.book.Status().Box()
		return curs.Frame{Page: whole, Margins: whole}
	}
	return p.core.Frame
}

// home brings the cursor to the first place from which it counts.
func (p *parts) home() {
	p.core.Cursor = p.core.Cursor.To(p.frame(), 0, 0)
}

// ways are those in which characters are written.
func (p *parts) ways() press.Ways {
	return press.Ways{Wrap: p.core.Modes.Has(mode.AWM), Insert: p.core.Modes.Has(mode.IRM)}
}

// look has one look at the status line, or at the page.
func (p *parts) look(status bool) {
	if status == p.book.OnStatus() {
		return
	}
	p.book.Look(status)
	p.core.Below = status
	p.core.Cursor, p.aside = p.aside, p.core.Cursor
	p.saved, p.savedAside = p.savedAside, p.saved
}

// softReset is what becomes of a terminal whose pages and stores stay.
func (p *parts) softReset() {
	for _, x := range [...]mode.Mode{mode.KAM, mode.IRM, mode.CKM, mode.OM, mode.NKM} {
		p.core.Modes = p.core.Modes.With(x, false)
	}
	p.core.Modes = p.core.Modes.With(mode.TCEM, true).With(mode.AWM, true)
	p.core.Frame.Margins = p.core.Frame.Page
	at := p.core.Cursor.Pos
	p.core.Cursor = curs.New()
	p.core.Cursor.Pos = at
	p.saved = nil
}

// allColumns makes the margins as wide as the page.
func (p *parts) allColumns() {
	p.core.Frame.Margins.Left, p.core.Frame.Margins.Right = p.core.Frame.Page.Left, p.core.Frame.Page.Right
}

func (r *run) answer(b []byte) {
	r.answers = append(r.answers, b...)
}

func (r *run) csi(id string, params ...int) {
	r.answer(reply.Csi(r.core.Eight, id, params...))
}

func (r *run) dcs(id, data string, params ...int) {
	r.answer(reply.Dcs(r.core.Eight, id, data, params...))
}

// call calls a macro, unless too many are open, or it is too long for what is left.
func (x turn) call() {
	if x.open == 0 {
		x.left = api.MaxReplay
	}
	text, ok := x.macros.Get(x.number(0))
	if !ok || x.open == api.MaxNest || len(text) > x.left {
		return
	}
	x.left -= len(text)
	x.open++
	x.doAll(parser.Split([]byte(text)))
	x.open--
}
