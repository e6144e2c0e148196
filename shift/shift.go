// Package shift: signs that are shifted by escapes, from whatever signs they begin with, for the other packages.
package shift

import (
	"strings"

	"cartouche/api"
)

// Shift: how signs are shifted: which ones are told now, and whether the last thing that came was an escape.
type Shift struct {
	Signs int
	Fresh bool
}

// teller of shifted signs: what it has told so far.
type teller struct {
	Shift
	points []int
}

// Tell a text that comes behind others: its code points, and how signs are shifted then.
func Tell(from Shift, s string) ([]int, Shift) {
	t := teller{Shift: from}
	for at := 0; at < len(s); {
		at += t.next(s[at:])
	}
	return t.points, t.Shift
}

// Waits: how many bytes at the end of a text may become an escape, if more come.
func Waits(s string) int {
	for n := len(lead); n > 0; n-- {
		if strings.HasSuffix(s, lead[:n]) {
			return n
		}
	}
	return 0
}

// next thing at the beginning of a text that is not empty: how many bytes it has.
func (t *teller) next(s string) int {
	signs, ok := readEscape(s)
	if !ok {
		t.points = append(t.points, pointOf(t.Signs, s[0]))
		t.Fresh = false
		return 1
	}
	if t.Fresh { // the escape just ahead has shifted nothing
		t.points = append(t.points, api.Bad)
	}
	t.Signs, t.Fresh = signs, true
	return escapeSize
}
