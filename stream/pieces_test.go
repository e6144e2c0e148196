package stream_test

import (
	"slices"
	"strings"
	"testing"
	library16 "unicode/utf16"
	library8 "unicode/utf8"
	"unsafe"

	"cartouche/api"
	"cartouche/stream"
)

// thing that bytes tell: code points (an escape may have none), and how many bytes stand for it.
type thing struct {
	points string // as runes, so that things can be held against each other
	size   int
}

// first thing of a text that is not empty and is all there, by the document's words; the state is that ahead of it, and is moved on.
func first(x *api.State, s string) thing {
	switch x.Encoding {
	case api.Utf8:
		return firstUtf8(s)
	case api.Utf16l, api.Utf16b:
		return firstUtf16(x.Encoding == api.Utf16b, s)
	case api.Kana:
		return firstKana(x, s)
	case api.Stop:
		if x.Stopped {
			return thing{"", 1}
		}
		x.Stopped = true
		return thing{string(rune(bad)), 1}
	}
	l, _ := stream.Decode(x.Encoding, s[:1])
	return thing{string(rune(l[0])), 1}
}

func firstUtf8(s string) thing {
	if r, size := library8.DecodeRuneInString(s); r != bad || size == 3 {
		return thing{string(r), size}
	}
	size := 1
	for k := 2; k <= len(s) && !library8.FullRuneInString(s[:k]); k++ {
		size = k
	}
	return thing{string(rune(bad)), size}
}

func firstUtf16(big bool, s string) thing {
	unit := func(at int) rune {
		if big {
			return rune(s[at])*256 + rune(s[at+1])
		}
		return rune(s[at+1])*256 + rune(s[at])
	}
	if len(s) == 1 {
		return thing{string(rune(bad)), 1}
	}
	one := unit(0)
	if !library16.IsSurrogate(one) {
		return thing{string(one), 2}
	}
	if library16.DecodeRune(one, 0xDC00) == bad {
		return thing{string(rune(bad)), 2}
	}
	if len(s) == 3 {
		return thing{string(rune(bad)), 3}
	}
	if len(s) >= 4 && library16.DecodeRune(one, unit(2)) != bad {
		return thing{string(library16.DecodeRune(one, unit(2))), 4}
	}
	return thing{string(rune(bad)), 2}
}

func firstKana(x *api.State, s string) thing {
	if signs := slices.Index([]string{"\x1b(B", "\x1b(J", "\x1b(I"}, s[:min(3, len(s))]); signs >= 0 {
		told := ""
		if x.Fresh {
			told = string(rune(bad))
		}
		x.Signs, x.Fresh = signs, true
		return thing{told, 3}
	}
	x.Fresh = false
	point, b := rune(bad), s[0]
	switch {
	case x.Signs == api.SignsKana && b >= 0x21 && b <= 0x5F:
		point = 0xFF61 + rune(b) - 0x21
	case x.Signs == api.SignsKana || b > 127 || b == 0x0E || b == 0x0F || b == 0x1B:
	case x.Signs == api.SignsRoman && b == 0x5C:
		point = 0xA5
	case x.Signs == api.SignsRoman && b == 0x7E:
		point = 0x203E
	default:
		point = rune(b)
	}
	return thing{string(point), 1}
}

func things(encoding int, s string) []thing {
	x := api.State{Encoding: encoding}
	var l []thing
	for at := 0; at < len(s); {
		next := first(&x, s[at:])
		l = append(l, next)
		at += next.size
	}
	return l
}

// wanted of Feed when a text came and is not all there: the things that are the same whatever comes behind; what is left waits.
func wanted(encoding int, s string) (points []int, then api.State) {
	sure := things(encoding, s)
	for n := range 4 {
		eachText(parts(encoding), n, func(more string) {
			other := things(encoding, s+more)
			same := 0
			for same < len(sure) && same < len(other) && sure[same] == other[same] {
				same++
			}
			sure = sure[:same]
		})
	}
	then = api.State{Encoding: encoding}
	for range sure {
		next := first(&then, s)
		for _, r := range next.points {
			points = append(points, int(r))
		}
		s = s[next.size:]
	}
	then.Rest = s
	return points, then
}

// F2: what is told, and what waits, of all texts of some bytes: no later than it may be, and no sooner.
func TestToldAsSoonAsMayBe(t *testing.T) {
	try := func(encoding int, s string) {
		points, then := wanted(encoding, s)
		if got, y := feed(t, open(t, encoding), s, false); !slices.Equal(got, points) || y != then {
			t.Errorf("Feed %d %q: %x %#v, not %x %#v", encoding, s, got, y, points, then)
		}
	}
	for _, n := range all() {
		for size := range 4 {
			eachText(parts(n), size, func(s string) { try(n, s) })
		}
	}
	eachText([]string{"\xe1", "\xf4", "\x8f", "\xbf"}, 4, func(s string) { try(api.Utf8, s) })
	for _, n := range []int{api.Utf16l, api.Utf16b} {
		eachText([]string{"\x00", "\xd8", "\xdc"}, 5, func(s string) { try(n, s) })
	}
	for size := range 4 {
		eachText([]string{"\x1b(B", "\x1b(J", "\x1b(I", "\x1b", "(", "a", "~"}, size, func(s string) { try(api.Kana, s) })
	}
}

// eachCut of a text into pieces, none of them empty.
func eachCut(s string, try func([]string)) {
	for bits := range 1 << max(0, len(s)-1) {
		var l []string
		from := 0
		for at := 1; at <= len(s); at++ {
			if at == len(s) || bits>>(at-1)&1 == 1 {
				l = append(l, s[from:at])
				from = at
			}
		}
		try(l)
	}
}

// F3: all texts of some bytes, in all pieces: the last one may be the last, or nothing may come behind it.
func TestPiecesTellTheSame(t *testing.T) {
	for _, n := range all() {
		try := func(s string) { tryCuts(t, n, s) }
		for size := range 5 {
			eachText(parts(n), size, try)
		}
	}
	try := func(n, size int, some ...string) {
		eachText(some, size, func(s string) { tryCuts(t, n, s) })
	}
	try(api.Utf8, 6, "\xf0", "\x90", "\xe1")
	try(api.Utf16l, 7, "\x00", "\xd8", "\xdc")
	try(api.Utf16b, 7, "\x00", "\xd8", "\xdc")
	try(api.Kana, 3, "\x1b(B", "\x1b(J", "\x1b(I", "\x1b", "~")
}

// tryCuts: a text in all pieces. Between them the state is as if they came at once.
func tryCuts(t *testing.T, encoding int, s string) {
	t.Helper()
	var states []api.State
	for k := range len(s) + 1 {
		_, x := feed(t, open(t, encoding), s[:k], false)
		states = append(states, x)
	}
	want := decode(t, encoding, s)
	eachCut(s, func(pieces []string) {
		tryPieces(t, encoding, pieces, want, states)
		tryPieces(t, encoding, append(pieces, ""), want, states)
	})
}

// tryPieces: with the last one the state is as at the beginning.
func tryPieces(t *testing.T, encoding int, pieces []string, want []int, states []api.State) {
	t.Helper()
	begin := open(t, encoding)
	x, came := begin, 0
	var told []int
	for i, s := range pieces {
		l, y := feed(t, x, s, i == len(pieces)-1)
		told = append(told, l...)
		x, came = y, came+len(s)
		if i < len(pieces)-1 && x != states[came] {
			t.Errorf("Feed %d %q: %#v, and at once %#v", encoding, pieces[:i+1], x, states[came])
		}
	}
	if !slices.Equal(told, want) {
		t.Errorf("Feed %d %q: %x, not %x", encoding, pieces, told, want)
	}
	if len(pieces) > 0 && x != begin {
		t.Errorf("Feed %d %q: %#v at the end", encoding, pieces, x)
	}
}

// F2: texts that are written out: what is told with each byte, and the state then.
func TestByteByByte(t *testing.T) {
	type step struct {
		told []int
		then api.State
	}
	rest := func(n int, s string) api.State { return api.State{Encoding: n, Rest: s} }
	shifted := func(s string, signs int, fresh bool) api.State {
		return api.State{Encoding: api.Kana, Rest: s, Signs: signs, Fresh: fresh}
	}
	for _, c := range []struct {
		s     string
		steps []step
		end   []int
	}{
		{"\xf0\x9f\x98\x80\xe2\xe2", []step{{nil, rest(1, "\xf0")}, {nil, rest(1, "\xf0\x9f")}, {nil, rest(1, "\xf0\x9f\x98")}, {[]int{0x1F600}, rest(1, "")}, {nil, rest(1, "\xe2")}, {[]int{bad}, rest(1, "\xe2")}}, []int{bad}},
		{"\xe2\x82a", []step{{nil, rest(1, "\xe2")}, {nil, rest(1, "\xe2\x82")}, {[]int{bad, 'a'}, rest(1, "")}}, nil},
		{"\x3d\xd8\x00\xde\x3d\xd8\x3d\xd8\x00", []step{{nil, rest(2, "\x3d")}, {nil, rest(2, "\x3d\xd8")}, {nil, rest(2, "\x3d\xd8\x00")}, {[]int{0x1F600}, rest(2, "")}, {nil, rest(2, "\x3d")}, {nil, rest(2, "\x3d\xd8")}, {nil, rest(2, "\x3d\xd8\x3d")}, {[]int{bad}, rest(2, "\x3d\xd8")}, {nil, rest(2, "\x3d\xd8\x00")}}, []int{bad}},
		{"\xd8\x3d\x00a\xdc\x00", []step{{nil, rest(3, "\xd8")}, {nil, rest(3, "\xd8\x3d")}, {nil, rest(3, "\xd8\x3d\x00")}, {[]int{bad, 'a'}, rest(3, "")}, {nil, rest(3, "\xdc")}, {[]int{bad}, rest(3, "")}}, nil},
		{"\x80\xe2", []step{{[]int{0x20AC}, rest(4, "")}, {[]int{0xE2}, rest(4, "")}}, nil},
		{"\x80\xe2", []step{{[]int{0xF780}, rest(5, "")}, {[]int{0xF7E2}, rest(5, "")}}, nil},
		{"\x1b(I!\x1b(J\x1b(\x1b", []step{{nil, shifted("\x1b", 0, false)}, {nil, shifted("\x1b(", 0, false)}, {nil, shifted("", 2, true)}, {[]int{0xFF61}, shifted("", 2, false)}, {nil, shifted("\x1b", 2, false)}, {nil, shifted("\x1b(", 2, false)}, {nil, shifted("", 1, true)}, {nil, shifted("\x1b", 1, true)}, {nil, shifted("\x1b(", 1, true)}, {[]int{bad, '('}, shifted("\x1b", 1, false)}}, []int{bad}},
		{"\x1b(J\x1b(I\x1b(", []step{{nil, shifted("\x1b", 0, false)}, {nil, shifted("\x1b(", 0, false)}, {nil, shifted("", 1, true)}, {nil, shifted("\x1b", 1, true)}, {nil, shifted("\x1b(", 1, true)}, {[]int{bad}, shifted("", 2, true)}, {nil, shifted("\x1b", 2, true)}, {nil, shifted("\x1b(", 2, true)}}, []int{bad, 0xFF68}},
		{"ab", []step{{[]int{bad}, api.State{Encoding: 7, Stopped: true}}, {nil, api.State{Encoding: 7, Stopped: true}}}, nil},
	} {
		x := open(t, c.steps[0].then.Encoding)
		begin := x
		for i, want := range c.steps {
			got, y := feed(t, x, c.s[i:i+1], false)
			if !slices.Equal(got, want.told) || y != want.then {
				t.Errorf("Feed %#v with %q: %x %#v, not %x %#v", x, c.s[i:i+1], got, y, want.told, want.then)
			}
			x = y
		}
		if got, y := feed(t, x, "", true); !slices.Equal(got, c.end) || y != begin {
			t.Errorf("Feed %#v at the end: %x %#v, not %x", x, got, y, c.end)
		}
	}
}

// F2: behind the last bytes another text may come, and is told by itself.
func TestAnotherTextBehindTheLast(t *testing.T) {
	for _, n := range all() {
		for size := range 4 {
			eachText(parts(n), size, func(s string) {
				_, x := feed(t, open(t, n), s, false)
				_, x = feed(t, x, "\x1b(I", true)
				if x != open(t, n) {
					t.Errorf("Feed %d %q: %#v at the end", n, s, x)
				}
				if got, _ := feed(t, x, s, true); !slices.Equal(got, decode(t, n, s)) {
					t.Errorf("Feed %d %q once more: %x", n, s, got)
				}
			})
		}
	}
}

// F1, F2, P1: MaxText bytes and one more; those that wait already are not counted.
func TestLongest(t *testing.T) {
	for _, n := range all() {
		good, _ := rests(n)
		for _, s := range []string{"a", "\xe2\x82\xac", "\x1b(I", "\xd8", "\xd8\x3d\xde\x00", "\x00\x3d\xd8\x00\xde", "\x1b"} {
			long := strings.Repeat(s, api.MaxText/len(s)+1)
			for _, more := range []int{1, len(long)} {
				if got, e := stream.Decode(n, long[:api.MaxText]+long[:more]); len(got) != 0 || e != api.ErrMany {
					t.Errorf("Decode %d of too many bytes: %d code points, %d", n, len(got), e)
				}
				for _, rest := range good {
					for _, last := range []bool{false, true} {
						x := api.State{Encoding: n, Rest: rest}
						if l, y, e := stream.Feed(x, long[:api.MaxText]+long[:more], last); len(l) != 0 || y != (api.State{}) || e != api.ErrMany {
							t.Errorf("Feed %#v with too many bytes: %d code points, %#v %d", x, len(l), y, e)
						}
					}
				}
			}
			long = long[:api.MaxText]
			tryPieces(t, n, []string{long}, decode(t, n, long), nil)
			for _, rest := range good {
				tryLong(t, n, rest, long)
			}
		}
	}
}

// tryLong: as many bytes as may come at once, behind those that wait; more than MaxText in all are told by the things' reference.
func tryLong(t *testing.T, n int, rest, long string) {
	t.Helper()
	var want []int
	for _, next := range things(n, rest+long) {
		for _, r := range next.points {
			want = append(want, int(r))
		}
	}
	_, x := feed(t, open(t, n), rest, false)
	whole, y := feed(t, x, long, true)
	if !slices.Equal(whole, want) || y != open(t, n) {
		t.Errorf("Feed %#v with MaxText bytes, from %q: %d code points, not %d; %#v", x, long[:4], len(whole), len(want), y)
	}
	before, y := feed(t, x, long, false)
	after, _ := feed(t, y, "", true)
	if !slices.Equal(append(before, after...), want) {
		t.Errorf("Feed %#v with MaxText bytes and nothing, from %q: %d and %d code points, not %d", x, long[:4], len(before), len(after), len(want))
	}
}

// F2, F3: pieces of more than MaxText bytes in all.
func TestNoBoundOfAllPieces(t *testing.T) {
	for _, n := range []int{api.Utf8, api.Latin, api.Kana} {
		x := open(t, n)
		told := 0
		for range 4 {
			l, y := feed(t, x, strings.Repeat("a", api.MaxText), false)
			told, x = told+len(l), y
		}
		if told != 4*api.MaxText || x != open(t, n) {
			t.Errorf("Feed %d four times: %d code points, %#v", n, told, x)
		}
	}
}

// P2: what waits shares no memory with the bytes that came, nor with the state that was handed in.
func TestRestIsTheCallers(t *testing.T) {
	for encoding, rest := range map[int]string{api.Utf8: "\xf0\x9f\x98", api.Utf16l: "\x00\xd8\x00", api.Utf16b: "\xd8\x00\xdc", api.Kana: "\x1b("} {
		bytes := strings.Repeat("ab", 50) + rest
		_, x := feed(t, open(t, encoding), bytes, false)
		if x.Rest != rest || within(x.Rest, bytes) {
			t.Errorf("Feed %d: %q waits, which the bytes have", encoding, x.Rest)
		}
		_, y := feed(t, x, "", false)
		if y != x || within(y.Rest, x.Rest) {
			t.Errorf("Feed %d: %q waits, which the state had", encoding, y.Rest)
		}
	}
}

// within: does a text that is not empty lie in the memory of another one?
func within(s, other string) bool {
	at, begin := uintptr(unsafe.Pointer(unsafe.StringData(s))), uintptr(unsafe.Pointer(unsafe.StringData(other)))
	return at >= begin && at < begin+uintptr(len(other))
}

// P2, P3: a state may be fed twice, and tells the same; what is told is the caller's.
func TestFedTwice(t *testing.T) {
	for _, n := range all() {
		_, x := feed(t, open(t, n), "a\xe2\x82\x1b(I\x1b(", false)
		before := x
		one, y := feed(t, x, "J\\\x00a", false)
		want := slices.Clone(one)
		room := one[:cap(one)]
		for i := range room {
			room[i] = -1
		}
		feed(t, y, "\x1b(Ia", true)
		if two, z := feed(t, x, "J\\\x00a", false); !slices.Equal(two, want) || z != y || x != before {
			t.Errorf("Feed %d twice: %x %#v, then %x %#v", n, want, y, two, z)
		}
	}
}
