package term

import (
	"phosphor/api"
	"phosphor/box"
	"phosphor/gate"
	"phosphor/line"
	"phosphor/mode"
	"phosphor/rend"
)

// Columns of a page. The fewer ones are those of no number, too.
const (
	narrow = 80
	broad  = 132
)

// The kinds of the status line. One can look at the host's alone.
const (
	noStatus = iota
	ownStatus
	hostStatus
)

const (
	firstLevel = 1
	lastLevel  = 5
	toLevel    = 60 // from a level to the number that stands for it
)

// setting are the clauses of modes, margins, sizes, and ways in which things are done from then on.
func setting() clauses {
	return clauses{
		gate.SM:      switched(false, true),
		gate.RM:      switched(false, false),
		gate.DECSET:  switched(true, true),
		gate.DECRST:  switched(true, false),
		gate.DECKPAM: keypad(true),
		gate.DECKPNM: keypad(false),
		gate.SGR:     turn.render,
		gate.DECSCA:  turn.keep,
		gate.DECSTBM: turn.rowMargins,
		gate.DECSLRM: turn.colMargins,
		gate.DECSACE: turn.extend,
		gate.S7C1T:   eightBits(false),
		gate.S8C1T:   eightBits(true),
		gate.DECSSDT: turn.statusKind,
		gate.DECSASD: turn.chooseSheet,
		gate.DECSCPP: turn.setCols,
		gate.DECSLPP: turn.setRows,
		gate.DECSCL:  turn.setLevel,
		gate.DECSTR:  turn.reset,
		gate.RIS:     turn.beginAnew,
	}
}

// switched sets modes by their numbers, or not.
func switched(dec, on bool) clause {
	return func(x turn) {
		for _, n := range x.Params {
			if m, ok := mode.Find(dec, n, x.core.Level); ok {
				x.set(m, on)
			}
		}
	}
}

// set sets a mode, or not, and what goes with it.
func (p *parts) set(m mode.Mode, on bool) {
	p.core.Modes = p.core.Modes.With(m, on)
	switch {
	case m == mode.OM:
		p.core.Cursor.Origin = on
		p.home()
	case m == mode.LRMM && on:
		p.singleLines()
	case m == mode.LRMM:
		p.allColumns()
	}
}

// singleLines makes all lines of all pages Single.
func (p *parts) singleLines() {
	for n := range p.book.Count() {
		one := p.book.Page(n)
		for row := range one.Rows() {
			one.SetLine(row, line.Sized(one.Line(row), api.Single))
		}
	}
}

// keypad has the keys of the pad send sequences, or what they show.
func keypad(on bool) clause {
	return func(x turn) {
		x.set(mode.NKM, on)
	}
}

func (x turn) render() {
	x.core.Cursor.Rend = rend.Apply(x.core.Cursor.Rend, x.Params...)
}

func (x turn) keep() {
	switch x.number(0) {
	case 0, 2:
		x.core.Cursor.Kept = false
	case 1:
		x.core.Cursor.Kept = true
	}
}

func (x turn) rowMargins() {
	rows, _ := x.book.Size()
	top, bottom, ok := box.Span(rows, x.number(0), x.number(1))
	if ok && !x.book.OnStatus() {
		x.core.Frame.Margins.Top, x.core.Frame.Margins.Bottom = top, bottom
		x.home()
	}
}

func (x turn) colMargins() {
	_, cols := x.book.Size()
	left, right, ok := box.Span(cols, x.number(0), x.number(1))
	if ok && !x.book.OnStatus() && x.core.Modes.Has(mode.LRMM) {
		x.core.Frame.Margins.Left, x.core.Frame.Margins.Right = left, right
		x.home()
	}
}

func (x turn) extend() {
	switch x.number(0) {
	case 0, 1:
		x.core.Stream = true
	case 2:
		x.core.Stream = false
	}
}

// eightBits has controls of eight bits answered, or of seven.
func eightBits(on bool) clause {
	return func(x turn) {
		x.core.Eight = on
	}
}

func (x turn) statusKind() {
	switch kind := x.number(0); kind {
	case noStatus, ownStatus:
		x.core.Status = kind
		x.look(false)
		x.book.Status().Erase(x.book.Status().Box())
	case hostStatus:
		x.core.Status = kind
	}
}

func (x turn) chooseSheet() {
	switch x.number(0) {
	case 0:
		x.look(false)
	case 1:
		if x.core.Status == hostStatus {
			x.look(true)
		}
	}
}

// resize is nothing on the status line.
func (x turn) resize(rows, cols int) {
	if !x.book.OnStatus() {
		x.Resize(rows, cols)
	}
}

func (x turn) setCols() {
	rows, _ := x.book.Size()
	switch n := x.number(0); n {
	case 0:
		x.resize(rows, narrow)
	case narrow, broad:
		x.resize(rows, n)
	}
}

func (x turn) setRows() {
	_, cols := x.book.Size()
	switch n := x.number(0); n {
	case 24, 25, 36, 48, 72, 144:
		x.resize(n, cols)
	}
}

func (x turn) setLevel() {
	level := x.number(0) - toLevel
	if level < firstLevel || level > lastLevel {
		return
	}
	x.core.Level = level
	x.core.Eight = level > firstLevel && x.number(1) != 1
	x.softReset()
}

func (x turn) reset() {
	x.softReset()
}

// beginAnew leaves the parser as it is.
func (x turn) beginAnew() {
	rows, cols := x.book.Size()
	x.parts = begin(rows, cols, x.book.Count())
}
