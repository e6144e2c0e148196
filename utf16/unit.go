package utf16

import "cartouche/api"

// Surrogates are no scalars: a first one and a second one behind it are one scalar, from beyond on.
const (
	firsts  = 0xD800
	seconds = 0xDC00
	behind  = 0xE000 // the first unit behind the surrogates
	beyond  = 0x10000
)

// putUnits of a scalar: one, or a first and a second one.
func putUnits(point int, put func(unit int)) {
	if point < beyond {
		put(point)
		return
	}
	bits := point - beyond
	put(firsts | bits>>10)
	put(seconds | bits&0x3FF)
}

// next: what is told at the beginning of a text that is not empty, and how many bytes tell it.
func next(big bool, s string) (point, size int) {
	if len(s) == 1 {
		return api.Bad, 1
	}
	one := readUnit(big, s)
	if !isFirst(one) {
		return alone(one), 2
	}
	if len(s) < 4 { // a single byte behind a first unit is no Bad of its own
		return api.Bad, len(s)
	}
	two := readUnit(big, s[2:])
	if !isSecond(two) {
		return api.Bad, 2
	}
	return beyond + (one-firsts)<<10 + (two - seconds), 4
}

// alone: what a unit tells that is no first one. A second one has none ahead of it here.
func alone(unit int) int {
	if isSecond(unit) {
		return api.Bad
	}
	return unit
}

// readUnit at the beginning of a text of two bytes at least.
func readUnit(big bool, s string) int {
	if big {
		return int(s[0])<<8 | int(s[1])
	}
	return int(s[1])<<8 | int(s[0])
}

func isFirst(unit int) bool {
	return unit >= firsts && unit < seconds
}

func isSecond(unit int) bool {
	return unit >= seconds && unit < behind
}
