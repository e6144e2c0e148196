// Package label: labels: see doc/01-label.md.
package label

import (
	"strings"

	"cartouche/api"
	"cartouche/limit"
	"cartouche/pass"
)

// Trim a text: it is without the white bytes at both its ends then.
func Trim(s string) (string, api.Errno) {
	return limit.Text(s, func(s string) string {
		// A piece of a text keeps all of it alive: what is answered is the caller's alone.
		return strings.Clone(trim(s))
	})
}

// Fold a text: it has small letters alone then.
func Fold(s string) (string, api.Errno) {
	return limit.Text(s, func(s string) string { return fold(s) })
}

// Find the encoding whose label a text is, however it is written; None, if it is none.
func Find(s string) (int, api.Errno) {
	return limit.Text(s, func(s string) int {
		name := fold(trim(s))
		return first(api.Labels(), func(l api.Label) bool { return l.Name == name }).Encoding
	})
}

// Name of an encoding: the one label that is told of it.
func Name(encoding int) (string, api.Errno) {
	name := first(told(), func(l api.Label) bool { return l.Encoding == encoding }).Name
	if name == "" {
		return "", api.ErrKind
	}
	return name, api.OK
}

func trim(s string) string {
	return strings.Trim(s, pass.White)
}

// fold goes by bytes, not by signs: bytes that are no letters stay, be they UTF-8 or not.
func fold(s string) string {
	b := []byte(s)
	for i, c := range b {
		if c >= 'A' && c <= 'Z' {
			b[i] = c - 'A' + 'a'
		}
	}
	return string(b)
}

// first label that is looked for; the zero one, which is None's and has no name, if there is none.
func first(l []api.Label, wanted func(api.Label) bool) api.Label {
	for _, x := range l {
		if wanted(x) {
			return x
		}
	}
	return api.Label{}
}

// told lists the label that is told of each encoding: not always the first one that finds it.
func told() []api.Label {
	return []api.Label{
		{Name: "utf-8", Encoding: api.Utf8},
		{Name: "utf-16le", Encoding: api.Utf16l},
		{Name: "utf-16be", Encoding: api.Utf16b},
		{Name: "windows-1252", Encoding: api.Latin},
		{Name: "x-user-defined", Encoding: api.User},
		{Name: "iso-2022-jp", Encoding: api.Kana},
		{Name: "replacement", Encoding: api.Stop},
	}
}
