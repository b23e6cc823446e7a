package term

import (
	"phosphor/api"
	"phosphor/gate"
	"phosphor/mode"
	"phosphor/rect"
	"phosphor/reply"
)

// What DSR and DECDSR ask for.
const (
	askHealth    = 5
	askPlace     = 6
	askPrinter   = 15
	askLock      = 25
	askKeyboard  = 26
	askSpace     = 62
	askMacros    = 63
	askLine      = 75
	askSessions  = 85
	spacePortion = 16 // bytes
)

// What is told of that.
const (
	healthy      = 0
	noPrinter    = 13
	keysAreOpen  = 20
	keysAreShut  = 21
	ownKeyboard  = 27
	northAmerica = 1
	lineIsReady  = 70
	oneSession   = 83
)

// What is reported, and brought back.
const (
	wholeReport  = 1
	cursorReport = 1
	stopsReport  = 2
)

// Whether a setting is told.
const (
	noSetting  = 0
	oneSetting = 1
)

// storing are the clauses of what the host leaves with the terminal, or brings back to it.
func storing() clauses {
	return clauses{
		gate.DECDMAC: turn.defineMacro,
		gate.DECINVM: turn.call,
		gate.DECUDK:  turn.defineKeys,
		gate.DECRSPS: turn.restorePart,
		gate.DECRSTS: turn.restoreAll,
	}
}

// telling are the clauses of what is answered.
func telling() clauses {
	return clauses{
		gate.DECID:    turn.tellFirst,
		gate.DA1:      turn.tellFirst,
		gate.DA2:      attributes(reply.Second),
		gate.DA3:      attributes(reply.Third),
		gate.DSR:      turn.tellStatus,
		gate.DECDSR:   turn.tellMore,
		gate.RQM:      modeTold(false),
		gate.DECRQM:   modeTold(true),
		gate.DECRQCRA: turn.tellSum,
		gate.DECRQPSR: turn.tellPart,
		gate.DECRQTSR: turn.tellAll,
		gate.DECRQSS:  turn.tellSetting,
	}
}

// isBit: may a number stand for yes or no?
func isBit(n int) bool {
	return n == 0 || n == 1
}

func (x turn) defineMacro() {
	clear, hex := x.number(1), x.number(2)
	if isBit(clear) && isBit(hex) {
		x.macros.Define(x.number(0), clear == 1, hex == 1, string(x.Data))
	}
}

func (x turn) defineKeys() {
	x.texts.Define(x.number(0) == 0, x.number(1) == 0, string(x.Data))
}

func (x turn) restorePart() {
	switch x.number(0) {
	case cursorReport:
		x.restoreCursor()
	case stopsReport:
		x.stops.Restore(string(x.Data))
	}
}

func (x turn) restoreCursor() {
	if core, e := x.core.SetCursor(string(x.Data)); e == api.OK {
		x.core = core
		x.book.Turn(core.Page)
	}
}

func (x turn) restoreAll() {
	core, e := x.core.Restore(string(x.Data))
	if x.number(0) != wholeReport || e != api.OK {
		return
	}
	x.core = core
	// Where one looks is still as it was: look is what changes that, with all that goes with it.
	x.core.Below = x.book.OnStatus()
	x.look(core.Below && core.Status == hostStatus)
	if !core.Modes.Has(mode.LRMM) {
		x.allColumns()
	}
}

func (x turn) tellFirst() {
	if x.number(0) == 0 {
		x.answer(reply.First(x.core.Eight, x.core.Level))
	}
}

// attributes tells those that are the same at every level.
func attributes(by func(eight bool) []byte) clause {
	return func(x turn) {
		if x.number(0) == 0 {
			x.answer(by(x.core.Eight))
		}
	}
}

func (x turn) tellStatus() {
	switch x.number(0) {
	case askHealth:
		x.csi("n", healthy)
	case askPlace:
		x.tellPlace(-1)
	}
}

// tellPlace tells the cursor's place, counted as it counts; of a page below 0 without the page.
func (x turn) tellPlace(page int) {
	c, area := x.core.Cursor, x.area(x.frame())
	x.answer(reply.Place(x.core.Eight, c.Row-area.Top, c.Col-area.Left, page))
}

func (x turn) tellMore() {
	switch x.number(0) {
	case askPlace:
		x.tellPlace(x.core.Page)
	case askPrinter:
		x.csi("?n", noPrinter)
	case askLock:
		x.tellLock()
	case askKeyboard:
		x.csi("?n", ownKeyboard, northAmerica, 0, 0)
	case askSpace:
		x.csi("*{", x.macros.Space()/spacePortion)
	case askMacros:
		x.answer(reply.Sum(x.core.Eight, x.number(1), x.macros.Sum()))
	case askLine:
		x.csi("?n", lineIsReady)
	case askSessions:
		x.csi("?n", oneSession)
	}
}

func (x turn) tellLock() {
	if x.texts.Locked() {
		x.csi("?n", keysAreShut)
	} else {
		x.csi("?n", keysAreOpen)
	}
}

// modeTold tells whether a mode is set.
func modeTold(dec bool) clause {
	return func(x turn) {
		n := x.number(0)
		x.answer(reply.Mode(x.core.Eight, dec, n, x.core.Modes.Ask(dec, n, x.core.Level)))
	}
}

func (x turn) tellSum() {
	sum, ok := rect.Sum(x.book, x.area(x.core.Frame), x.Params[min(1, len(x.Params)):])
	if ok {
		x.answer(reply.Sum(x.core.Eight, x.number(0), sum))
	}
}

func (x turn) tellPart() {
	switch x.number(0) {
	case cursorReport:
		x.dcs("$u", x.core.Cursor_(), cursorReport)
	case stopsReport:
		x.dcs("$u", x.stops.Report(), stopsReport)
	}
}

func (x turn) tellAll() {
	if x.number(0) == wholeReport {
		x.dcs("$s", x.core.Report(), wholeReport)
	}
}

func (x turn) tellSetting() {
	if setting, ok := x.core.Setting(string(x.Data)); ok {
		x.dcs("$r", setting, oneSetting)
	} else {
		x.dcs("$r", "", noSetting)
	}
}
