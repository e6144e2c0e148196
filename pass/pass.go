// Package pass: bytes that are passed, from a place of a text on.
package pass

import "strings"

// White has the white bytes: 9, 10, 12, 13 and 32. (11 is none of them.)
const White = "\t\n\f\r "

// While answers the first place, from one on, whose byte is not passed; the end, if all of them are.
func While(s string, at int, passed func(byte) bool) int {
	for at < len(s) && passed(s[at]) {
		at++
	}
	return at
}

// Whites answers the first place, from one on, whose byte is not white; the end, if all of them are.
func Whites(s string, at int) int {
	return While(s, at, func(c byte) bool { return IsWhite(c) })
}

// IsWhite: is a byte white?
func IsWhite(c byte) bool {
	return strings.IndexByte(White, c) >= 0
}

// Stands: does one of some bytes stand at a place? At the end none does.
func Stands(s string, at int, some string) bool {
	return at < len(s) && strings.IndexByte(some, s[at]) >= 0
}
