package limit_test

import (
	"strings"
	"testing"

	"cartouche/api"
	"cartouche/limit"
)

func TestTextTellsUpToMaxText(t *testing.T) {
	for _, n := range []int{0, 1, api.MaxText - 1, api.MaxText} {
		got, e := limit.Text(strings.Repeat("a", n), func(s string) int { return len(s) })
		if got != n || e != api.OK {
			t.Errorf("%d bytes: %d %d", n, got, e)
		}
	}
}

func TestTextDoesNotLookAtMore(t *testing.T) {
	got, e := limit.Text(strings.Repeat("a", api.MaxText+1), func(s string) []int {
		t.Error("a text that is too long is looked at")
		return []int{len(s)}
	})
	if got != nil || e != api.ErrMany {
		t.Errorf("%v %d", got, e)
	}
}
