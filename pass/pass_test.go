package pass_test

import (
	"testing"

	"cartouche/pass"
)

func TestWhile(t *testing.T) {
	const s = "aab\x00\xffa"
	for at, want := range []int{2, 2, 2, 3, 4, 6, 6} {
		if got := pass.While(s, at, func(c byte) bool { return c == 'a' }); got != want {
			t.Errorf("While from %d: %d, not %d", at, got, want)
		}
	}
	if got := pass.While("", 0, func(byte) bool { return true }); got != 0 {
		t.Errorf("While of nothing: %d", got)
	}
}

// Just five bytes are white.
func TestWhiteBytes(t *testing.T) {
	for c := range 256 {
		want := c == 9 || c == 10 || c == 12 || c == 13 || c == 32
		if got := pass.IsWhite(byte(c)); got != want {
			t.Errorf("IsWhite %d: %v", c, got)
		}
		s := string([]byte{' ', byte(c), '\t', byte(c), 'x', ' '})
		end := 1
		if want {
			end = 4
		}
		if got := pass.Whites(s, 0); got != end {
			t.Errorf("Whites %q: %d", s, got)
		}
	}
	if got := pass.Whites("x  ", 1); got != 3 {
		t.Errorf("Whites up to the end: %d", got)
	}
}

func TestStands(t *testing.T) {
	for _, c := range []struct {
		s    string
		at   int
		some string
		want bool
	}{
		{"a=b", 1, "=", true}, {"a=b", 0, "=", false}, {"a=b", 2, "ab", true}, {"a=b", 3, "ab", false},
		{"", 0, "a", false}, {"\xff", 0, "a\xff", true}, {"a", 0, "", false}, {"a", 9, "a", false},
	} {
		if got := pass.Stands(c.s, c.at, c.some); got != c.want {
			t.Errorf("Stands %q %d %q: %v", c.s, c.at, c.some, got)
		}
	}
}
