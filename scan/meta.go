package scan

import (
	"cartouche/api"
	"cartouche/attr"
	"cartouche/label"
)

// told: the encoding that attributes name. A charset counts though its label is none: what content says is not asked then.
func told(l []api.Attr) int {
	if name, ok := first(l, "charset"); ok {
		encoding, _ := label.Find(name) // it is not too long: that is checked
		return encoding
	}
	if equiv, _ := first(l, "http-equiv"); equiv != "content-type" {
		return api.None
	}
	content, _ := first(l, "content")
	encoding, _ := attr.Charset(content) // nor is this
	return encoding
}

// first value of a name, and whether there is one.
func first(l []api.Attr, name string) (string, bool) {
	for _, a := range l {
		if a.Name == name {
			return a.Value, true
		}
	}
	return "", false
}

// instead: the encoding that is meant where one is told. In UTF-16 a text could not have been read so far.
func instead(encoding int) int {
	switch encoding {
	case api.Utf16l, api.Utf16b:
		return api.Utf8
	case api.User:
		return api.Latin
	}
	return encoding
}
