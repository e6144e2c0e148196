package front

import (
	"strings"

	"cartouche/api"
	"cartouche/label"
	"cartouche/mark"
	"cartouche/stream"
)

// longestMark: behind so many bytes no mark can come any more.
const longestMark = 3

// chooser: what came so far, and what has been told of it.
type chooser struct {
	api.Front
	points []int
}

// take bytes: as long as nothing is chosen they may have to wait.
func (c *chooser) take(bytes string, last bool) {
	if c.Why == 0 {
		all := c.Wait + bytes
		if !last && !enough(c.Label, all) {
			// Joined to nothing a text is the very one that was handed in: what waits is new.
			c.Wait = strings.Clone(all)
			return
		}
		bytes = c.choose(all)
	}
	c.tell(bytes, last)
	if last {
		c.Front = api.Front{Label: c.Label}
	}
}

// choose by all bytes that came: those that stand behind the mark are left to be told.
func (c *chooser) choose(all string) string {
	// With those that waited they may be too many for Choose, which looks no further than this.
	encoding, why, size, _ := Choose(c.Label, all[:min(len(all), api.MaxScan)])
	c.Encoding, c.Why, c.Wait = encoding, why, ""
	c.State, _ = stream.Open(encoding)
	return all[size:]
}

// tell bytes of the encoding that is chosen, however many: into which pieces they are cut makes no difference.
func (c *chooser) tell(bytes string, last bool) {
	for len(bytes) > api.MaxText {
		c.feed(bytes[:api.MaxText], false)
		bytes = bytes[api.MaxText:]
	}
	c.feed(bytes, last)
}

// feed a piece to the decoder. No error can be: its state is checked, and the piece is not too long.
func (c *chooser) feed(piece string, last bool) {
	l, then, _ := stream.Feed(c.State, piece, last)
	c.points = append(c.points, l...)
	c.State = then
}

// enough: would Choose choose the same, whatever comes behind the bytes that wait?
func enough(name, wait string) bool {
	if marked, _ := mark.Sniff(wait); marked != api.None {
		return true
	}
	if told, _ := label.Find(name); told != api.None {
		return len(wait) >= longestMark
	}
	return len(wait) >= api.MaxScan
}
