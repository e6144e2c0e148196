package stream_test

import (
	"slices"
	"strings"
	"testing"

	"cartouche/api"
	"cartouche/kana"
	"cartouche/single"
	"cartouche/stream"
	"cartouche/utf16"
	"cartouche/utf8"
)

const bad = api.Bad

// all encodings that there are.
func all() []int {
	return []int{api.Utf8, api.Utf16l, api.Utf16b, api.Latin, api.User, api.Kana, api.Stop}
}

// wrong: numbers that are no encoding's.
func wrong() []int {
	const most = int(^uint(0) >> 1)
	return []int{api.None, -1, 8, 9, 256 + api.Utf8, 1<<32 + api.Utf8, most, -most - 1}
}

func decode(t *testing.T, encoding int, s string) []int {
	t.Helper()
	got, e := stream.Decode(encoding, s)
	if e != api.OK {
		t.Errorf("Decode %d %q: error %d", encoding, s, e)
	}
	return got
}

func open(t *testing.T, encoding int) api.State {
	t.Helper()
	got, e := stream.Open(encoding)
	if e != api.OK {
		t.Errorf("Open %d: error %d", encoding, e)
	}
	return got
}

// feed also asks of the state that comes out whether it may be handed in.
func feed(t *testing.T, x api.State, s string, last bool) ([]int, api.State) {
	t.Helper()
	got, y, e := stream.Feed(x, s, last)
	if e != api.OK {
		t.Errorf("Feed %#v %q %v: error %d", x, s, last, e)
	}
	if e := stream.Check(y); e != api.OK {
		t.Errorf("Feed %#v %q %v: %#v, of which Check says %d", x, s, last, y, e)
	}
	return got, y
}

// eachText of so many of some parts.
func eachText(some []string, n int, try func(string)) {
	if n == 0 {
		try("")
		return
	}
	for _, part := range some {
		eachText(some, n-1, func(s string) { try(part + s) })
	}
}

// parts of texts in which an encoding has its edges.
func parts(encoding int) []string {
	switch encoding {
	case api.Utf8:
		return []string{"a", "\x80", "\xbf", "\xc2", "\xe0", "\xed", "\xf0", "\xf4"}
	case api.Utf16l, api.Utf16b:
		return []string{"\x00", "\xd7", "\xd8", "\xdb", "\xdc", "\xdf"}
	case api.Kana:
		return []string{"\x1b", "(", "B", "J", "I", "\\"}
	}
	return []string{"a", "\x80", "\xff", "\x1b"}
}

// F1: each encoding by its chapter.
func TestDecodeByChapters(t *testing.T) {
	for _, c := range []struct {
		encoding int
		want     []int
	}{
		{api.Utf8, []int{'a', 0x20AC, 0x1B, '(', 'J', '\\', bad}},
		{api.Utf16l, []int{0xE261, 0xAC82, 0x281B, 0x5C4A, bad}},
		{api.Utf16b, []int{0x61E2, 0x82AC, 0x1B28, 0x4A5C, bad}},
		{api.Latin, []int{'a', 0xE2, 0x201A, 0xAC, 0x1B, '(', 'J', '\\', 0xE2}},
		{api.User, []int{'a', 0xF7E2, 0xF782, 0xF7AC, 0x1B, '(', 'J', '\\', 0xF7E2}},
		{api.Kana, []int{'a', bad, bad, bad, 0xA5, bad}},
		{api.Stop, []int{bad}},
	} {
		if got := decode(t, c.encoding, "a\xe2\x82\xac\x1b(J\\\xe2"); !slices.Equal(got, c.want) {
			t.Errorf("Decode %d: %x, not %x", c.encoding, got, c.want)
		}
		if got := decode(t, c.encoding, ""); len(got) != 0 {
			t.Errorf("Decode %d of nothing: %x", c.encoding, got)
		}
	}
}

// F1: all texts of some bytes are told as the chapters tell them.
func TestDecodeAsTheChapters(t *testing.T) {
	chapters := map[int]func(string) ([]int, api.Errno){
		api.Utf8:   utf8.Decode,
		api.Utf16l: func(s string) ([]int, api.Errno) { return utf16.Decode(false, s) },
		api.Utf16b: func(s string) ([]int, api.Errno) { return utf16.Decode(true, s) },
		api.Latin:  func(s string) ([]int, api.Errno) { return single.Decode(false, s) },
		api.User:   func(s string) ([]int, api.Errno) { return single.Decode(true, s) },
		api.Kana:   kana.Decode,
		api.Stop:   func(s string) ([]int, api.Errno) { return []int{bad}[:min(1, len(s))], api.OK },
	}
	for encoding, chapter := range chapters {
		for n := range 5 {
			eachText(parts(encoding), n, func(s string) {
				want, _ := chapter(s)
				if got := decode(t, encoding, s); !slices.Equal(got, want) {
					t.Errorf("Decode %d %q: %x, not %x", encoding, s, got, want)
				}
			})
		}
	}
}

// F1, F2, P1: no such encoding. ErrKind is named ahead of all others.
func TestNoEncoding(t *testing.T) {
	for _, n := range wrong() {
		for _, s := range []string{"", "a", strings.Repeat("a", api.MaxText+1)} {
			if got, e := stream.Decode(n, s); len(got) != 0 || e != api.ErrKind {
				t.Errorf("Decode %d: %x %d", n, got, e)
			}
			for _, x := range []api.State{{Encoding: n}, {Encoding: n, Rest: "a"}, {Encoding: n, Signs: 3, Fresh: true, Stopped: true}} {
				isError(t, x, s, api.ErrKind)
			}
		}
		if got, e := stream.Open(n); got != (api.State{}) || e != api.ErrKind {
			t.Errorf("Open %d: %v %d", n, got, e)
		}
	}
}

// isError: a state that is none, whatever comes.
func isError(t *testing.T, x api.State, s string, want api.Errno) {
	t.Helper()
	if e := stream.Check(x); e != want {
		t.Errorf("Check %#v: %d, not %d", x, e, want)
	}
	for _, last := range []bool{false, true} {
		if l, y, e := stream.Feed(x, s, last); len(l) != 0 || y != (api.State{}) || e != want {
			t.Errorf("Feed %#v with %d bytes: %x %#v %d, not %d", x, len(s), l, y, e, want)
		}
	}
}

// F2: a state at the beginning has nothing but its encoding.
func TestOpen(t *testing.T) {
	for _, n := range all() {
		if got := open(t, n); got != (api.State{Encoding: n}) {
			t.Errorf("Open %d: %#v", n, got)
		}
		if e := stream.Check(open(t, n)); e != api.OK {
			t.Errorf("Check of Open %d: %d", n, e)
		}
	}
}

// rests that may wait, and some that may not.
func rests(encoding int) (good, evil []string) {
	evil = []string{"a", "\xff", "a\x1b", "\x1b(B", "\x1b((", "\x1b\x1b", "(", "\x28\x1b", "\x80", "\xc0", "\xc1", "\xf5", "\xe0\x80", "\xed\xa0", "\xf0\x80", "\xf4\x90",
		"\xc2\x80", "\xe2\x82\xac", "\xf0\x9f\x98\x80", "\xf4\x8f\xbf\xbf", "a\xe2", "\xe2\xe2", "\xe2\xf0\x9f\x98", "\xe2\x82\xe2", "\xe2a",
		"a\x00", "\x00a\x00", "\x00\xdc", "\xdc\x00", "\x00\xd7", "\xd7\xd7", "\xe0\xdc", "\xdc\xe0\xd8", "\xd8\xd8\xd8\xd8", "\xd8\xd8\xdc\xdc", "\xd8\xd8\xdc\xdc\xd8",
		strings.Repeat("\xe2", api.MaxText), strings.Repeat("\xe2", api.MaxText+1), strings.Repeat("\x1b", api.MaxText+1), strings.Repeat("\xd8", api.MaxText+2), strings.Repeat("\xd8", 1<<20)}
	switch encoding {
	case api.Utf8:
		good = []string{"\xc2", "\xdf", "\xe0", "\xe0\xa0", "\xe2\x82", "\xed\x9f", "\xef\xbf", "\xf0", "\xf0\x90", "\xf0\x9f\x98", "\xf4\x8f\xbf"}
	case api.Utf16l:
		good = []string{"\x00", "a", "\xd8", "\xdc", "\xff", "\x00\xd8", "\xff\xdb", "\xd8\xd8", "\x00\xd8\x00", "\xff\xdb\xff", "\xdc\xda\xd8"}
	case api.Utf16b:
		good = []string{"\x00", "a", "\xd8", "\xdc", "\xff", "\xd8\x00", "\xdb\xff", "\xd8\xd8", "\xd8\x00\xdc", "\xdb\xff\x00", "\xda\xdc\xd8"}
	case api.Kana:
		good = []string{"\x1b", "\x1b("}
	default:
		evil = append(evil, "\x1b", "\x1b(", "\xe2\x82", "\xd8\x00")
	}
	return append(good, ""), evil
}

// F2: which Rest may wait.
func TestCheckOfRest(t *testing.T) {
	for _, n := range all() {
		good, evil := rests(n)
		for _, s := range good {
			if e := stream.Check(api.State{Encoding: n, Rest: s}); e != api.OK {
				t.Errorf("Check %d %q: %d", n, s, e)
			}
			if l, y := feed(t, api.State{Encoding: n, Rest: s}, "", false); len(l) != 0 || y != (api.State{Encoding: n, Rest: s}) {
				t.Errorf("Feed %d %q with nothing: %x %#v", n, s, l, y)
			}
		}
		for _, s := range evil {
			if slices.Contains(good, s) || len(s) == 1 && (n == api.Utf16l || n == api.Utf16b) {
				continue
			}
			for _, bytes := range []string{"", "a", strings.Repeat("a", api.MaxText+1)} { // ErrForm is named ahead of ErrState and ErrMany
				isError(t, api.State{Encoding: n, Rest: s}, bytes, api.ErrForm)
				isError(t, api.State{Encoding: n, Rest: s, Signs: 3, Fresh: true, Stopped: true}, bytes, api.ErrForm)
			}
		}
	}
}

// F2: each Rest of up to four bytes may wait just if it waits when it comes.
func TestCheckOfEachRest(t *testing.T) {
	for _, n := range all() {
		for size := range 5 {
			eachText(parts(n), size, func(s string) {
				_, y := feed(t, open(t, n), s, false)
				want := api.OK
				if y.Rest != s {
					want = api.ErrForm
				}
				if e := stream.Check(api.State{Encoding: n, Rest: s}); e != want {
					t.Errorf("Check %d %q: %d, not %d", n, s, e, want)
				}
			})
		}
	}
}

// F2: each way of Signs, Fresh and Stopped.
func TestCheckOfTheOthers(t *testing.T) {
	for _, n := range all() {
		for _, signs := range []int{-256, -1, 0, 1, 2, 3, 256, 1 << 32} {
			for bits := range 4 {
				x := api.State{Encoding: n, Signs: signs, Fresh: bits&1 != 0, Stopped: bits&2 != 0}
				good := signs >= 0 && signs <= 2
				good = good && (n == api.Kana || signs == 0 && !x.Fresh)
				good = good && (n == api.Stop || !x.Stopped)
				if !good {
					isError(t, x, "", api.ErrState)
					isError(t, x, "a", api.ErrState)
					isError(t, x, strings.Repeat("a", api.MaxText+1), api.ErrState) // it is named ahead of ErrMany
				} else if e := stream.Check(x); e != api.OK {
					t.Errorf("Check %v: %d", x, e)
				}
			}
		}
	}
	for _, rest := range []string{"\x1b", "\x1b("} {
		for signs := range 3 {
			for _, fresh := range []bool{false, true} {
				if e := stream.Check(api.State{Encoding: api.Kana, Rest: rest, Signs: signs, Fresh: fresh}); e != api.OK {
					t.Errorf("Check with %q: %d", rest, e)
				}
			}
		}
	}
}
