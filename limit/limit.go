// Package limit: the bound that all texts have.
package limit

import "cartouche/api"

// Text answers what tell makes of a text, or ErrMany, if the text is too long for it.
func Text[T any](s string, tell func(string) T) (T, api.Errno) {
	if len(s) > api.MaxText {
		var zero T
		return zero, api.ErrMany
	}
	return tell(s), api.OK
}
