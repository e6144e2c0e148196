package utf16_test

import (
	"slices"
	"strings"
	"testing"
	library "unicode/utf16"

	"cartouche/api"
	"cartouche/utf16"
	"cartouche/utf8"
)

const most = int(^uint(0) >> 1)

func decode(t *testing.T, big bool, s string) []int {
	t.Helper()
	got, e := utf16.Decode(big, s)
	if e != api.OK {
		t.Errorf("Decode %v %q: error %d", big, s, e)
	}
	return got
}

func encode(t *testing.T, big bool, l []int) string {
	t.Helper()
	got, e := utf16.Encode(big, l)
	if e != api.OK {
		t.Errorf("Encode %v %x: error %d", big, l, e)
	}
	return got
}

// both orders of the bytes of a unit.
func both(try func(big bool)) {
	try(false)
	try(true)
}

// laid: the bytes of units.
func laid(big bool, units ...int) string {
	var b []byte
	for _, u := range units {
		pair := []byte{byte(u / 256), byte(u % 256)}
		if !big {
			slices.Reverse(pair)
		}
		b = append(b, pair...)
	}
	return string(b)
}

// C1, C2: the first and the last scalar of each count of units, and those beside the surrogates; the bytes are written out.
func TestEdgesOfScalars(t *testing.T) {
	for _, c := range []struct {
		point       int
		big, little string
	}{
		{0, "\x00\x00", "\x00\x00"}, {'a', "\x00a", "a\x00"}, {0x20AC, "\x20\xac", "\xac\x20"},
		{0xD7FF, "\xd7\xff", "\xff\xd7"}, {0xE000, "\xe0\x00", "\x00\xe0"}, {0xFEFF, "\xfe\xff", "\xff\xfe"},
		{api.Bad, "\xff\xfd", "\xfd\xff"}, {0xFFFF, "\xff\xff", "\xff\xff"},
		{0x10000, "\xd8\x00\xdc\x00", "\x00\xd8\x00\xdc"}, {0x103FF, "\xd8\x00\xdf\xff", "\x00\xd8\xff\xdf"},
		{0x10400, "\xd8\x01\xdc\x00", "\x01\xd8\x00\xdc"}, {0x1F600, "\xd8\x3d\xde\x00", "\x3d\xd8\x00\xde"},
		{0x10FC00, "\xdb\xff\xdc\x00", "\xff\xdb\x00\xdc"}, {api.Most, "\xdb\xff\xdf\xff", "\xff\xdb\xff\xdf"},
	} {
		both(func(big bool) {
			bytes := c.little
			if big {
				bytes = c.big
			}
			if got := encode(t, big, []int{c.point}); got != bytes {
				t.Errorf("Encode %v %x: %q", big, c.point, got)
			}
			if got := decode(t, big, bytes); !slices.Equal(got, []int{c.point}) {
				t.Errorf("Decode %v %q: %x", big, bytes, got)
			}
			among, row := laid(big, 'x')+bytes+bytes, []int{'x', c.point, c.point}
			if got := encode(t, big, row); got != among {
				t.Errorf("Encode %v %x: %q", big, row, got)
			}
			if got := decode(t, big, among); !slices.Equal(got, row) {
				t.Errorf("Decode %v %q: %x", big, among, got)
			}
		})
	}
}

// C1: no scalar, wherever it stands; the errors are those of UTF-8.
func TestEncodeOfNoScalar(t *testing.T) {
	wrong := []int{-1, -0x10000, api.Most + 1, 1 << 21, most, -most - 1}
	for n := 0xD800; n <= 0xDFFF; n++ {
		wrong = append(wrong, n)
	}
	for _, n := range wrong {
		for _, l := range [][]int{{n}, {n, 'a'}, {'a', n}, {0x10000, n, 'b'}, {0xD83D, n}, {n, 0xDE00}} {
			both(func(big bool) {
				if got, e := utf16.Encode(big, l); got != "" || e != api.ErrRange {
					t.Errorf("Encode %v %x: %q %d", big, l, got, e)
				}
			})
			if _, e := utf8.Encode(l); e != api.ErrRange {
				t.Errorf("UTF-8 of %x: %d", l, e)
			}
		}
	}
}

// C1, C3: each scalar has the units that the library tells of it, and is decoded as it was.
func TestEachScalarIsDecodedAsItWas(t *testing.T) {
	var l []int
	for n := 0; n <= api.Most; n++ {
		if n < 0xD800 || n > 0xDFFF {
			l = append(l, n)
		}
	}
	room := api.MaxText / 4 // so that what is encoded is not too long to be decoded
	for part := range slices.Chunk(l, room) {
		var units []int
		for _, n := range part {
			for _, u := range library.AppendRune(nil, rune(n)) {
				units = append(units, int(u))
			}
		}
		both(func(big bool) {
			s := encode(t, big, part)
			if s != laid(big, units...) {
				t.Fatalf("Encode %v from %x on is otherwise than the library", big, part[0])
			}
			if !slices.Equal(decode(t, big, s), part) {
				t.Fatalf("Decode %v from %x on is not as it was", big, part[0])
			}
		})
	}
}

// C2: each unit by itself, and with a single byte behind it.
func TestDecodeOfEachUnit(t *testing.T) {
	for u := range 0x10000 {
		want, more := []int{u}, []int{u, api.Bad}
		if u >= 0xD800 && u <= 0xDFFF {
			want, more = bads(1), bads(2)
		}
		if u >= 0xD800 && u <= 0xDBFF {
			more = bads(1)
		}
		both(func(big bool) {
			s := laid(big, u)
			if got := decode(t, big, s); !slices.Equal(got, want) {
				t.Errorf("Decode %v %q: %x", big, s, got)
			}
			if got := decode(t, big, s+"\xdc"); !slices.Equal(got, more) {
				t.Errorf("Decode %v %q and a byte: %x", big, s, got)
			}
		})
	}
}

func bads(n int) []int {
	return slices.Repeat([]int{api.Bad}, n)
}

// C2: units of two that are alone, in the midst and at the end of a text, with and without a single byte behind them.
func TestDecodeOfWrongUnits(t *testing.T) {
	const bad, high, low = api.Bad, 0xD83D, 0xDE00
	for _, c := range []struct {
		units []int
		end   string
		want  []int
	}{
		{nil, "", nil}, {nil, "a", bads(1)}, {nil, "\xd8", bads(1)}, {nil, "\xdc", bads(1)},
		{[]int{'a'}, "b", []int{'a', bad}}, {[]int{'a'}, "\xd8", []int{'a', bad}},
		{[]int{high}, "", bads(1)}, {[]int{high}, "a", bads(1)}, {[]int{high}, "\xde", bads(1)},
		{[]int{low}, "", bads(1)}, {[]int{low}, "a", bads(2)},
		{[]int{high, low}, "", []int{0x1F600}}, {[]int{high, low}, "a", []int{0x1F600, bad}},
		{[]int{low, high}, "", bads(2)}, {[]int{low, high}, "a", bads(2)},
		{[]int{high, high}, "", bads(2)}, {[]int{high, high}, "a", bads(2)},
		{[]int{low, low}, "", bads(2)}, {[]int{low, low}, "a", bads(3)},
		{[]int{high, 'a'}, "", []int{bad, 'a'}}, {[]int{high, 'a'}, "b", []int{bad, 'a', bad}},
		{[]int{'a', high}, "", []int{'a', bad}}, {[]int{'a', high}, "b", []int{'a', bad}},
		{[]int{'a', low}, "", []int{'a', bad}}, {[]int{'a', low, 'b'}, "", []int{'a', bad, 'b'}},
		{[]int{'a', high, 'b'}, "", []int{'a', bad, 'b'}},
		{[]int{high, high, low}, "", []int{bad, 0x1F600}}, {[]int{high, low, low}, "", []int{0x1F600, bad}},
		{[]int{high, low, high, low}, "", []int{0x1F600, 0x1F600}}, {[]int{high, low, high}, "a", []int{0x1F600, bad}},
		{[]int{high, 0xD7FF}, "", []int{bad, 0xD7FF}}, {[]int{high, 0xE000}, "", []int{bad, 0xE000}},
		{[]int{high, 0xDBFF}, "", bads(2)}, {[]int{0xD7FF, low}, "", []int{0xD7FF, bad}},
		{[]int{0xE000, low}, "", []int{0xE000, bad}}, {[]int{high, 0xFFFD}, "", []int{bad, bad}},
	} {
		both(func(big bool) {
			s := laid(big, c.units...) + c.end
			if got := decode(t, big, s); !slices.Equal(got, c.want) {
				t.Errorf("Decode %v of %x and %q: %x", big, c.units, c.end, got)
			}
		})
	}
}

// C2: texts of bytes at the edges, against the document's words taken literally.
func TestAgainstTheWords(t *testing.T) {
	try := func(s string) {
		both(func(big bool) {
			if got, want := decode(t, big, s), wanted(big, s); !slices.Equal(got, want) {
				t.Errorf("Decode %v %q: %x, not %x", big, s, got, want)
			}
		})
	}
	for n := range 6 {
		eachText("\x00a\xd7\xd8\xdb\xdc\xdf\xe0\xff", n, try)
	}
	for n := range 10 {
		eachText("\x00\xd8\xdc", n, try)
	}
}

// eachText of so many of some bytes.
func eachText(some string, n int, try func(string)) {
	b := make([]byte, n)
	var fill func(int)
	fill = func(at int) {
		if at == n {
			try(string(b))
			return
		}
		for i := range len(some) {
			b[at] = some[i]
			fill(at + 1)
		}
	}
	fill(0)
}

// wanted: what the document asks of Decode; the library tells which two units are a scalar's.
func wanted(big bool, s string) []int {
	var units []rune
	for at := 0; at+1 < len(s); at += 2 {
		one, two := rune(s[at]), rune(s[at+1])
		if !big {
			one, two = two, one
		}
		units = append(units, one*256+two)
	}
	var l []int
	left := false // the last unit is a first one of two that is left
	for i := 0; i < len(units); i++ {
		left = false
		if i+1 < len(units) && library.DecodeRune(units[i], units[i+1]) != api.Bad {
			l = append(l, int(library.DecodeRune(units[i], units[i+1])))
			i++
		} else if !library.IsSurrogate(units[i]) {
			l = append(l, int(units[i]))
		} else {
			l = append(l, api.Bad)
			left = library.DecodeRune(units[i], 0xDC00) != api.Bad
		}
	}
	if len(s)%2 == 1 && !left {
		l = append(l, api.Bad)
	}
	return l
}

// C1, C2, P1: MaxText bytes, or scalars, and one more.
func TestLongest(t *testing.T) {
	both(func(big bool) {
		half := api.MaxText / 2
		if got := decode(t, big, strings.Repeat(laid(big, 'a'), half)); !slices.Equal(got, slices.Repeat([]int{'a'}, half)) {
			t.Errorf("Decode %v: %d code points", big, len(got))
		}
		if got := decode(t, big, strings.Repeat(laid(big, 0xDBFF, 0xDFFF), half/2)); !slices.Equal(got, slices.Repeat([]int{api.Most}, half/2)) {
			t.Errorf("Decode %v: %d code points", big, len(got))
		}
		if got := decode(t, big, strings.Repeat("a", api.MaxText-1)); len(got) != half || got[half-1] != api.Bad {
			t.Errorf("Decode %v with a byte left: %d code points", big, len(got))
		}
		for _, n := range []int{api.MaxText + 1, api.MaxText + 2, 1 << 20} {
			if got, e := utf16.Decode(big, strings.Repeat("\xd8", n)); len(got) != 0 || e != api.ErrMany {
				t.Errorf("Decode %v of %d bytes: %d code points, %d", big, n, len(got), e)
			}
		}
		for _, n := range []int{0, 'a', 0xFFFF} {
			if got := encode(t, big, slices.Repeat([]int{n}, api.MaxText)); got != strings.Repeat(laid(big, n), api.MaxText) {
				t.Errorf("Encode %v of %x, often: %d bytes", big, n, len(got))
			}
		}
		if got := encode(t, big, slices.Repeat([]int{api.Most}, api.MaxText)); got != strings.Repeat(laid(big, 0xDBFF, 0xDFFF), api.MaxText) {
			t.Errorf("Encode %v of Most, often: %d bytes", big, len(got))
		}
		for _, n := range []int{0, api.Most, -1, 0xD800, api.Most + 1} { // ErrMany is named ahead of ErrRange
			if got, e := utf16.Encode(big, slices.Repeat([]int{n}, api.MaxText+1)); got != "" || e != api.ErrMany {
				t.Errorf("Encode %v of %x, too often: %q %d", big, n, got, e)
			}
		}
		if got, e := utf16.Encode(big, append(make([]int, api.MaxText-1), 0xDC00)); got != "" || e != api.ErrRange {
			t.Errorf("Encode %v of a last one that is wrong: %q %d", big, got, e)
		}
	})
}

// P2: a list may be nil or just empty.
func TestEmpty(t *testing.T) {
	both(func(big bool) {
		for _, l := range [][]int{nil, {}} {
			if got := encode(t, big, l); got != "" {
				t.Errorf("Encode of nothing: %q", got)
			}
		}
		if got := decode(t, big, ""); len(got) != 0 {
			t.Errorf("Decode of nothing: %x", got)
		}
	})
}

// P2: a list that is handed in is only read, the spare room behind it too.
func TestEncodeOnlyReads(t *testing.T) {
	for _, n := range []int{0x20AC, -1} {
		room := []int{'a', n, 0x1F600, 7, 8, 9}
		before := slices.Clone(room)
		both(func(big bool) { utf16.Encode(big, room[:3]) })
		if !slices.Equal(room, before) {
			t.Errorf("Encode changed what it was handed: %x", room)
		}
	}
}

// P2, P3: answers share no memory, and a call answers the same again, whichever order of bytes was asked for meanwhile.
func TestAnswersAreTheCallers(t *testing.T) {
	s := "\x00a\xd8\x3d\xde\x00\xdc\x00\xd8"
	want := []int{'a', 0x1F600, api.Bad, api.Bad}
	one, two := decode(t, true, s), decode(t, true, s)
	all := one[:cap(one)]
	for i := range all {
		all[i] = -1
	}
	decode(t, false, s)
	if !slices.Equal(two, want) || !slices.Equal(decode(t, true, s), want) {
		t.Errorf("Decode: %x, then %x", two, decode(t, true, s))
	}
	l := []int{'a', 0x20AC}
	was := encode(t, true, l)
	l[0] = 'b'
	if little := encode(t, false, l); was != "\x00a\x20\xac" || little != "b\x00\xac\x20" || encode(t, true, l) != "\x00b\x20\xac" {
		t.Errorf("Encode: %q, then %q, then %q", was, little, encode(t, true, l))
	}
}
