package utf8

import "cartouche/api"

// piece of a text: what is told by bytes that belong together.
type piece struct {
	point int
	size  int  // how many bytes it stands for
	open  bool // the text ended ahead of the scalar that they begin
}

// start: what a first byte says of those behind it.
type start struct {
	size      int // how many bytes the scalar has; 0, if none begins so
	bits      int // its uppermost bits
	low, high byte
}

// walk tells the pieces of a text one by one. (Each has a byte at least, so this ends.)
func walk(s string, tell func(piece)) {
	for at := 0; at < len(s); {
		p := next(s[at:])
		tell(p)
		at += p.size
	}
}

// next piece: the one at the beginning of a text that is not empty.
func next(s string) piece {
	b := begin(s[0])
	if b.size == 0 {
		return piece{point: api.Bad, size: 1}
	}
	point, low, high := b.bits, b.low, b.high
	for i := 1; i < b.size; i++ {
		if i == len(s) {
			return piece{point: api.Bad, size: i, open: true}
		}
		c := s[i]
		if c < low || c > high {
			return piece{point: api.Bad, size: i}
		}
		point = point<<6 | int(c&0x3F)
		low, high = 0x80, 0xBF
	}
	return piece{point: point, size: b.size}
}

// begin: what a first byte says. Between low and high lies the second byte, which shuts out
// what fewer bytes tell (0xE0, 0xF0), surrogates (0xED), and what is above Most (0xF4);
// from the third one on all further bytes may stand.
func begin(c byte) start {
	switch {
	case c < 0x80:
		return start{size: 1, bits: int(c)}
	case c < 0xC2: // further bytes; and two that would tell what one does
		return start{}
	case c < 0xE0:
		return start{2, int(c & 0x1F), 0x80, 0xBF}
	case c == 0xE0:
		return start{3, 0, 0xA0, 0xBF}
	case c == 0xED:
		return start{3, 0xD, 0x80, 0x9F}
	case c < 0xF0:
		return start{3, int(c & 0xF), 0x80, 0xBF}
	case c == 0xF0:
		return start{4, 0, 0x90, 0xBF}
	case c < 0xF4:
		return start{4, int(c & 7), 0x80, 0xBF}
	case c == 0xF4:
		return start{4, 4, 0x80, 0x8F}
	}
	return start{}
}
