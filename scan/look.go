package scan

import (
	"strings"

	"cartouche/api"
	"cartouche/attr"
	"cartouche/label"
	"cartouche/pass"
)

// Behind these bytes a meta's attributes come.
const meta = "<meta"

// look through all of a text, thing by thing, for a meta that tells an encoding.
func look(s string) int {
	for at := 0; at < len(s); {
		encoding, to := step(s, at)
		if encoding != api.None {
			return encoding
		}
		at = to
	}
	return api.None
}

// step over the thing at a place: the encoding that it tells, and the place behind it. What has no end reaches up to the text's, or behind it.
func step(s string, at int) (int, int) {
	rest := s[at:]
	switch {
	case strings.HasPrefix(rest, "<!--"):
		return api.None, behindComment(s, at)
	case beginsMeta(rest):
		l, end, _ := attr.All(s, at+len(meta)) // no error can be: the place is in the text, which is short
		encoding, _ := Meta(l)
		return encoding, end + 1
	case beginsTag(rest):
		end := pass.While(s, at, func(c byte) bool { return c != '>' && !pass.IsWhite(c) })
		_, end, _ = attr.All(s, end)
		return api.None, end + 1
	case pass.Stands(rest, 0, "<") && pass.Stands(rest, 1, "!/?"):
		return api.None, pass.While(s, at, func(c byte) bool { return c != '>' }) + 1
	}
	return api.None, at + 1
}

// behindComment: the place behind one that begins at a place; the text's end, if it has none. The -- that it begins with may be those of its end.
func behindComment(s string, at int) int {
	begin := at + len("<!")
	n := strings.Index(s[begin:], "-->")
	if n < 0 {
		return len(s)
	}
	return begin + n + len("-->")
}

// beginsMeta: does a text begin with a meta that goes on?
func beginsMeta(s string) bool {
	if !pass.Stands(s, len(meta), pass.White+"/") {
		return false
	}
	name, _ := label.Fold(s[:len(meta)])
	return name == meta
}

// beginsTag: does a text begin with a tag, be it one that ends another or not?
func beginsTag(s string) bool {
	if !pass.Stands(s, 0, "<") {
		return false
	}
	at := 1
	if pass.Stands(s, at, "/") {
		at++
	}
	return at < len(s) && isLetter(s[at])
}

func isLetter(c byte) bool {
	return c >= 'a' && c <= 'z' || c >= 'A' && c <= 'Z'
}
