// Package rend is layer 1: see shared/doc/01-rend.md.
package rend

import "phosphor/api"

// part is one of the five things that a rendition may be.
type part struct {
	bit    api.Rend
	on     int // the number that makes a rendition it
	off    int // the number that ends that
	letter byte
	weight int
}

// parts stand in the order of their letters; so their numbers rise, too.
var parts = [5]part{
	{bit: api.Bold, on: 1, off: 22, letter: 'b', weight: 128},
	{bit: api.Under, on: 4, off: 24, letter: 'u', weight: 16},
	{bit: api.Blink, on: 5, off: 25, letter: 'k', weight: 64},
	{bit: api.Reverse, on: 7, off: 27, letter: 'r', weight: 32},
	{bit: api.Hidden, on: 8, off: 28, letter: 'h', weight: 8},
}

const (
	firstFour = api.Bold | api.Under | api.Blink | api.Reverse
	whole     = firstFour | api.Hidden
)

// Apply: numbers change a rendition.
func Apply(r api.Rend, params ...int) api.Rend {
	if len(params) == 0 {
		return 0
	}
	r &= whole
	for _, n := range params {
		r = applyOne(r, n)
	}
	return r
}

func applyOne(r api.Rend, n int) api.Rend {
	if n == 0 {
		return 0
	}
	for _, p := range parts {
		if n == p.on {
			return r | p.bit
		}
		if n == p.off {
			return r &^ p.bit
		}
	}
	return r
}

// Flip: numbers turn parts of it over.
func Flip(r api.Rend, params ...int) api.Rend {
	r &= whole
	if len(params) == 0 {
		return r ^ firstFour
	}
	for _, n := range params {
		r ^= turned(n)
	}
	return r
}

// turned is what a number turns over: Hidden by its own number alone.
func turned(n int) api.Rend {
	if n == 0 {
		return firstFour
	}
	for _, p := range parts {
		if n == p.on {
			return p.bit
		}
	}
	return 0
}

// Params: the numbers that make it.
func Params(r api.Rend) []int {
	list := []int{0}
	for _, p := range parts {
		if r&p.bit != 0 {
			list = append(list, p.on)
		}
	}
	return list
}

// Letters: those of what it is.
func Letters(r api.Rend) string {
	var b []byte
	for _, p := range parts {
		if r&p.bit != 0 {
			b = append(b, p.letter)
		}
	}
	return string(b)
}

// FromLetters: and back.
func FromLetters(s string) (api.Rend, api.Errno) {
	var r api.Rend
	read := 0
	for _, p := range parts {
		if read < len(s) && s[read] == p.letter {
			r |= p.bit
			read++
		}
	}
	// Each part is asked for once and in order, so a letter that is unknown, doubled or late is left over.
	if read < len(s) {
		return 0, api.ErrForm
	}
	return r, api.OK
}

// Weight: what it counts for in checksums.
func Weight(r api.Rend) int {
	sum := 0
	for _, p := range parts {
		if r&p.bit != 0 {
			sum += p.weight
		}
	}
	return sum
}
