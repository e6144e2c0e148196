package attr

import (
	"strings"

	"cartouche/api"
	"cartouche/label"
	"cartouche/pass"
)

// next attribute from a place on, the place behind it, and whether there is one.
func next(s string, at int) (api.Attr, int, bool) {
	begin := pass.While(s, at, func(c byte) bool { return c == '/' || pass.IsWhite(c) })
	if begin == len(s) || s[begin] == '>' {
		return api.Attr{}, begin, false
	}
	// The first byte is the name's, whatever it is: it may be a = that ends no name.
	end := pass.While(s, begin+1, func(c byte) bool {
		return c != '=' && c != '/' && c != '>' && !pass.IsWhite(c)
	})
	v, at, ok := value(s, end)
	if !ok {
		return api.Attr{}, at, false
	}
	return api.Attr{Name: fold(s[begin:end]), Value: fold(v)}, at, true
}

// value that comes behind a name, the place behind it, and whether it has an end. One that does not come, or not ahead of a >, is empty.
func value(s string, at int) (string, int, bool) {
	at = pass.Whites(s, at)
	if !pass.Stands(s, at, "=") {
		return "", at, true
	}
	at = pass.Whites(s, at+1)
	if pass.Stands(s, at, quotes) {
		return quoted(s, at)
	}
	end := pass.While(s, at, func(c byte) bool { return c != '>' && !pass.IsWhite(c) })
	return s[at:end], end, true
}

// The bytes that a value, or a label, may stand between.
const quotes = `"'`

// quoted: what stands from a quote up to the next same one, the place behind that, and whether there is one; if not, the place is the end.
func quoted(s string, at int) (string, int, bool) {
	quote := s[at]
	end := pass.While(s, at+1, func(c byte) bool { return c != quote })
	if end == len(s) {
		return "", end, false
	}
	return s[at+1 : end], end + 1, true
}

// charset: the label that a text of small letters tells; an empty one, which finds nothing, if it tells none.
func charset(s string) string {
	at, ok := told(s)
	if !ok {
		return ""
	}
	at = pass.Whites(s, at)
	if pass.Stands(s, at, quotes) {
		l, _, _ := quoted(s, at) // empty, if it has no end
		return l
	}
	end := pass.While(s, at, func(c byte) bool { return c != ';' && !pass.IsWhite(c) })
	return s[at:end]
}

// told: the place behind the first = that comes behind a charset, and whether there is one.
func told(s string) (int, bool) {
	const word = "charset"
	for at := 0; ; {
		n := strings.Index(s[at:], word)
		if n < 0 {
			return 0, false
		}
		at = pass.Whites(s, at+n+len(word))
		if pass.Stands(s, at, "=") {
			return at + 1, true
		}
	}
}

// fold a piece of a text that is not too long. What is answered is new: it does not keep the text alive.
func fold(s string) string {
	s, _ = label.Fold(s)
	return s
}
