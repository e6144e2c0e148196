package shift_test

import (
	"slices"
	"strings"
	"testing"

	"cartouche/api"
	"cartouche/shift"
)

const bad = api.Bad

// Each way in which signs may be shifted, and what comes then.
func TestTellFromEachShift(t *testing.T) {
	points := []int{'\\', 0xA5, 0xFF9C} // of one byte by each of the signs
	for signs := api.SignsPlain; signs <= api.SignsKana; signs++ {
		for _, fresh := range []bool{false, true} {
			from := shift.Shift{Signs: signs, Fresh: fresh}
			var escaped []int
			if fresh {
				escaped = []int{bad}
			}
			for _, c := range []struct {
				s    string
				want []int
				then shift.Shift
			}{
				{"", nil, from},
				{"\\", []int{points[signs]}, shift.Shift{Signs: signs}},
				{"\x80", []int{bad}, shift.Shift{Signs: signs}},
				{"\x1b", []int{bad}, shift.Shift{Signs: signs}},
				{"\x1b(B", escaped, shift.Shift{Signs: api.SignsPlain, Fresh: true}},
				{"\x1b(J", escaped, shift.Shift{Signs: api.SignsRoman, Fresh: true}},
				{"\x1b(I", escaped, shift.Shift{Signs: api.SignsKana, Fresh: true}},
				{"\x1b(J\x1b(I", append(slices.Clone(escaped), bad), shift.Shift{Signs: api.SignsKana, Fresh: true}},
				{"\x1b(J\\", append(slices.Clone(escaped), 0xA5), shift.Shift{Signs: api.SignsRoman}},
				{"\x1b\x1b(I", []int{bad}, shift.Shift{Signs: api.SignsKana, Fresh: true}},
				{"\x1b\\", []int{bad, points[signs]}, shift.Shift{Signs: signs}},
			} {
				if got, then := shift.Tell(from, c.s); !slices.Equal(got, c.want) || then != c.then {
					t.Errorf("Tell %v %q: %x %v, not %x %v", from, c.s, got, then, c.want, c.then)
				}
			}
		}
	}
}

func TestWaits(t *testing.T) {
	for s, want := range map[string]int{
		"": 0, "a": 0, "(": 0, "a(": 0, "\x1b": 1, "a\x1b": 1, "\x1b\x1b": 1, "\x1b(": 2, "a\x1b(": 2, "\x1b\x1b(": 2, "\x1b(\x1b": 1,
		"\x1b(\x1b(": 2, "\x1b((": 0, "\x1b(B": 0, "\x1b(I": 0, "\x1b(x": 0, "\x1ba": 0, "\x1b(I\x1b": 1, "\x1b(I(": 0,
	} {
		if got := shift.Waits(s); got != want {
			t.Errorf("Waits %q: %d, not %d", s, got, want)
		}
	}
}

// More than MaxText are told and written, too: the bound is another's.
func TestNoBound(t *testing.T) {
	n := api.MaxText + 1
	l, then := shift.Tell(shift.Shift{Signs: api.SignsKana}, strings.Repeat("!", n))
	if !slices.Equal(l, slices.Repeat([]int{0xFF61}, n)) || then != (shift.Shift{Signs: api.SignsKana}) {
		t.Errorf("Tell: %d code points, %v", len(l), then)
	}
	if s, ok := shift.Write(l); s != "\x1b(I"+strings.Repeat("!", n)+"\x1b(B" || !ok {
		t.Errorf("Write: %d bytes, %v", len(s), ok)
	}
}

func TestWriteOfNone(t *testing.T) {
	for _, l := range [][]int{{bad}, {'a', -1}, {0xFF61, 0x80, 'a'}} {
		if s, ok := shift.Write(l); s != "" || ok {
			t.Errorf("Write %x: %q %v", l, s, ok)
		}
	}
}
