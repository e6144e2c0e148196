// Package utf8: UTF-8: see doc/02-utf8.md.
package utf8

import (
	"cartouche/api"
	"cartouche/limit"
)

// Decode a text: its scalars, and Bad where there is none.
func Decode(s string) ([]int, api.Errno) {
	return limit.Text(s, func(s string) []int {
		var l []int
		walk(s, func(p piece) { l = append(l, p.point) })
		return l
	})
}

// Encode scalars.
func Encode(l []int) (string, api.Errno) {
	if len(l) > api.MaxText {
		return "", api.ErrMany
	}
	var b []byte
	for _, point := range l {
		if !scalar(point) {
			return "", api.ErrRange
		}
		b = put(b, point)
	}
	return string(b), api.OK
}

// Split a text: how many bytes at its end may become a scalar, if more come.
func Split(s string) (int, api.Errno) {
	return limit.Text(s, func(s string) int {
		waiting := 0
		walk(s, func(p piece) {
			if p.open {
				waiting = p.size
			}
		})
		return waiting
	})
}

// scalar: is a code point one that bytes may tell? Surrogates are none: they are halves of UTF-16.
func scalar(point int) bool {
	return point >= 0 && point <= api.Most && (point < 0xD800 || point > 0xDFFF)
}

// put the bytes of a scalar behind others.
func put(b []byte, point int) []byte {
	switch {
	case point < 0x80:
		return append(b, byte(point))
	case point < 0x800:
		return append(b, byte(0xC0|point>>6), further(point))
	case point < 0x10000:
		return append(b, byte(0xE0|point>>12), further(point>>6), further(point))
	}
	return append(b, byte(0xF0|point>>18), further(point>>12), further(point>>6), further(point))
}

// further byte: it has the six lowest bits.
func further(bits int) byte {
	return byte(0x80 | bits&0x3F)
}
