package stream

import (
	"strings"

	"cartouche/api"
	"cartouche/shift"
	"cartouche/utf8"
)

// most bytes that are taken at once: with those that wait, three at most, they are not too many for any chapter.
const most = api.MaxText - 3

// decoder: the state that is fed, and what has been told so far.
type decoder struct {
	api.State
	points []int
}

// feed bytes, however many: into which pieces they are cut makes no difference.
func (d *decoder) feed(bytes string) {
	for len(bytes) > most {
		d.take(bytes[:most])
		bytes = bytes[most:]
	}
	d.take(bytes)
}

// take a piece: all is told but what waits.
func (d *decoder) take(piece string) {
	all := d.Rest + piece
	ready := len(all) - waits(d.Encoding, all)
	d.tell(all[:ready])
	// A piece of a text keeps all of it alive: what is answered is the caller's alone.
	d.Rest = strings.Clone(all[ready:])
}

// end: what waits is told as it is, and the state is as at the beginning.
func (d *decoder) end() {
	d.tell(d.Rest)
	d.State = api.State{Encoding: d.Encoding}
}

// tell a text of which nothing waits for more.
func (d *decoder) tell(s string) {
	switch d.Encoding {
	case api.Kana:
		l, now := shift.Tell(shift.Shift{Signs: d.Signs, Fresh: d.Fresh}, s)
		d.points = append(d.points, l...)
		d.Signs, d.Fresh = now.Signs, now.Fresh
	case api.Stop:
		if !d.Stopped {
			d.points = append(d.points, stop(s)...)
			d.Stopped = s != ""
		}
	default:
		l, _ := Decode(d.Encoding, s) // neither error can be: it is checked, and not too long
		d.points = append(d.points, l...)
	}
}

// waits: how many bytes at the end of a text tell nothing yet by themselves.
func waits(encoding int, s string) int {
	switch encoding {
	case api.Utf8:
		n, _ := utf8.Split(s) // none of a text that is too long, which no state has
		return n
	case api.Utf16l, api.Utf16b:
		return waitingUnits(encoding == api.Utf16b, s)
	case api.Kana:
		return shift.Waits(s)
	}
	return 0
}

// waitingUnits: how many bytes of UTF-16 wait at the end: half a unit, and ahead of it, or by itself, a first one of two.
func waitingUnits(big bool, s string) int {
	half := len(s) % 2
	whole := s[:len(s)-half]
	if whole == "" {
		return half
	}
	greater := whole[len(whole)-1]
	if big {
		greater = whole[len(whole)-2]
	}
	if greater >= 0xD8 && greater <= 0xDB {
		return 2 + half
	}
	return half
}
