package shift

import (
	"strings"

	"cartouche/api"
)

// An escape is lead and one of finals, which stand at the places that are the numbers of their signs.
const (
	lead       = "\x1b("
	finals     = "BJI"
	escapeSize = len(lead) + 1
)

// What Roman signs have in the place of two plain ones.
const (
	yen, yenByte           = 0xA5, 0x5C
	overline, overlineByte = 0x203E, 0x7E
)

// The bytes of kana signs, and the code point of the first of them.
const (
	kanaFirst, kanaLast = 0x21, 0x5F
	kanaPoint           = 0xFF61
)

// readEscape at the beginning of a text: to which signs it shifts; false, if there is none.
func readEscape(s string) (int, bool) {
	if len(s) < escapeSize || !strings.HasPrefix(s, lead) {
		return 0, false
	}
	signs := strings.IndexByte(finals, s[len(lead)])
	return signs, signs >= 0
}

// escapeTo signs.
func escapeTo(signs int) string {
	return lead + finals[signs:signs+1]
}

// pointOf a byte: the code point that it is by its signs, or Bad.
func pointOf(signs int, b byte) int {
	switch {
	case signs == api.SignsKana && b >= kanaFirst && b <= kanaLast:
		return kanaPoint + int(b) - kanaFirst
	case signs == api.SignsKana || b >= 0x80 || b == 0x0E || b == 0x0F || b == 0x1B:
		return api.Bad
	case signs == api.SignsRoman && b == yenByte:
		return yen
	case signs == api.SignsRoman && b == overlineByte:
		return overline
	}
	return int(b)
}

// byteOf a code point by signs; false, if it has none by them.
func byteOf(signs, point int) (byte, bool) {
	b := point
	switch {
	case signs == api.SignsKana:
		b = point - kanaPoint + kanaFirst
	case signs == api.SignsRoman && point == yen:
		b = yenByte
	case signs == api.SignsRoman && point == overline:
		b = overlineByte
	}
	// Only one byte can be it; whether that one is, is asked the other way round.
	if b < 0 || b >= 0x80 || pointOf(signs, byte(b)) != point {
		return 0, false
	}
	return byte(b), true
}
