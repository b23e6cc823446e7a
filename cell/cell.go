// Package cell is layer 2: see shared/doc/02-cell.md.
package cell

import (
	"phosphor/api"
	"phosphor/rend"
)

const (
	blank      = 32
	keptWeight = 4
	modulus    = 65536 // of checksums
	runBytes   = 7
	longestRun = 255 // what the byte that counts can say
)

// Erased: a blank.
func Erased() api.Cell { return api.Cell{Glyph: blank} }

// Weight: what a cell counts for in checksums.
func Weight(c api.Cell) int {
	sum := int(uint16(c.Glyph)) + rend.Weight(c.Rend)
	if c.Kept {
		sum += keptWeight
	}
	return sum
}

// Sum: of rows.
func Sum(rows ...[]api.Cell) int {
	sum := 0
	for _, row := range rows {
		for _, c := range row {
			sum = (sum + Weight(c)) % modulus
		}
	}
	return sum
}

// Negated: what brings the sum to 0.
func Negated(rows ...[]api.Cell) int {
	return (modulus - Sum(rows...)) % modulus
}

// run is so many cells of one kind, side by side.
type run struct {
	api.Cell
	count int
}

// takes tells whether a cell that comes next belongs to the run. A run of no cells takes none, as it stands for what is ahead of the first run.
func (r run) takes(c api.Cell) bool {
	return r.count > 0 && r.count < longestRun && r.Cell == c
}

func (r run) bytes() [runBytes]byte {
	glyph := uint32(r.Glyph)
	kept := byte(0)
	if r.Kept {
		kept = 1
	}
	return [runBytes]byte{
		byte(r.count),
		byte(glyph >> 24), byte(glyph >> 16), byte(glyph >> 8), byte(glyph),
		byte(r.Rend),
		kept,
	}
}

// Encode: a row as bytes.
func Encode(row []api.Cell) []byte {
	var out []byte
	for _, r := range runs(row) {
		b := r.bytes()
		out = append(out, b[:]...)
	}
	return out
}

func runs(row []api.Cell) []run {
	var list []run
	for _, c := range row {
		last := len(list) - 1
		if last < 0 || !list[last].takes(c) {
			list = append(list, run{Cell: c})
			last++
		}
		list[last].count++
	}
	return list
}

// Decode: and back.
func Decode(b []byte) ([]api.Cell, api.Errno) {
	var row []api.Cell
	var ahead run
	for i := 0; i < len(b); i += runBytes {
		r, ok := readRun(b[i:])
		if !ok || ahead.takes(r.Cell) {
			return nil, api.ErrForm
		}
		for range r.count {
			row = append(row, r.Cell)
		}
		ahead = r
	}
	return row, api.OK
}

// readRun reads the run at the beginning of b.
func readRun(b []byte) (run, bool) {
	if len(b) < runBytes || b[0] == 0 || b[6] > 1 {
		return run{}, false
	}
	glyph := uint32(b[1])<<24 | uint32(b[2])<<16 | uint32(b[3])<<8 | uint32(b[4])
	c := api.Cell{Glyph: rune(glyph), Rend: api.Rend(b[5]), Kept: b[6] == 1}
	return run{Cell: c, count: int(b[0])}, true
}
