package utf8_test

import (
	"slices"
	"strings"
	"testing"
	library "unicode/utf8"

	"cartouche/api"
	"cartouche/utf8"
)

func decode(t *testing.T, s string) []int {
	t.Helper()
	got, e := utf8.Decode(s)
	if e != api.OK {
		t.Errorf("Decode %q: error %d", s, e)
	}
	return got
}

func encode(t *testing.T, l []int) string {
	t.Helper()
	got, e := utf8.Encode(l)
	if e != api.OK {
		t.Errorf("Encode %x: error %d", l, e)
	}
	return got
}

func split(t *testing.T, s string) int {
	t.Helper()
	got, e := utf8.Split(s)
	if e != api.OK {
		t.Errorf("Split %q: error %d", s, e)
	}
	return got
}

// B1, B2: the first and the last scalar of each count of bytes, and those beside the surrogates.
func TestEdgesOfScalars(t *testing.T) {
	for _, c := range []struct {
		point int
		bytes string
	}{
		{0, "\x00"}, {'a', "a"}, {0x7F, "\x7f"},
		{0x80, "\xc2\x80"}, {0xE9, "\xc3\xa9"}, {0x7FF, "\xdf\xbf"},
		{0x800, "\xe0\xa0\x80"}, {0x20AC, "\xe2\x82\xac"}, {0xD7FF, "\xed\x9f\xbf"}, {0xE000, "\xee\x80\x80"},
		{0xFEFF, "\xef\xbb\xbf"}, {api.Bad, "\xef\xbf\xbd"}, {0xFFFF, "\xef\xbf\xbf"},
		{0x10000, "\xf0\x90\x80\x80"}, {0x1F600, "\xf0\x9f\x98\x80"}, {api.Most, "\xf4\x8f\xbf\xbf"},
	} {
		if got := encode(t, []int{c.point}); got != c.bytes {
			t.Errorf("Encode %x: %q", c.point, got)
		}
		if got := encode(t, []int{'x', c.point, c.point}); got != "x"+c.bytes+c.bytes {
			t.Errorf("Encode %x among others: %q", c.point, got)
		}
		if got := decode(t, c.bytes); !slices.Equal(got, []int{c.point}) {
			t.Errorf("Decode %q: %x", c.bytes, got)
		}
		if got := split(t, c.bytes); got != 0 {
			t.Errorf("Split %q: %d", c.bytes, got)
		}
	}
}

// B1: no scalar, wherever it stands.
func TestEncodeOfNoScalar(t *testing.T) {
	const most = int(^uint(0) >> 1)
	wrong := []int{-1, -0x80, 0xD800, 0xDBFF, 0xDC00, 0xDFFF, api.Most + 1, 1 << 21, most, -most - 1}
	for _, n := range wrong {
		for _, l := range [][]int{{n}, {n, 'a'}, {'a', n}, {'a', n, 'b'}, {0xD83D, n}} {
			if got, e := utf8.Encode(l); got != "" || e != api.ErrRange {
				t.Errorf("Encode %x: %q %d", l, got, e)
			}
		}
	}
	for n := 0xD800; n <= 0xDFFF; n++ {
		if got, e := utf8.Encode([]int{n}); got != "" || e != api.ErrRange {
			t.Errorf("Encode %x: %q %d", n, got, e)
		}
	}
}

// B1, B3: each scalar has the bytes that the library tells of it, and is decoded as it was.
func TestEachScalarIsDecodedAsItWas(t *testing.T) {
	var l []int
	for n := 0; n <= api.Most; n++ {
		if n < 0xD800 || n > 0xDFFF {
			l = append(l, n)
		}
	}
	most := api.MaxText / 4 // so that what is encoded is not too long to be decoded
	for part := range slices.Chunk(l, most) {
		var b []byte
		for _, n := range part {
			b = library.AppendRune(b, rune(n))
		}
		s := encode(t, part)
		if s != string(b) {
			t.Fatalf("Encode from %x on is otherwise than the library", part[0])
		}
		if !slices.Equal(decode(t, s), part) {
			t.Fatalf("Decode from %x on is not as it was", part[0])
		}
		if split(t, s) != 0 {
			t.Fatalf("Split from %x on", part[0])
		}
	}
}

// B3: what is told of other bytes than a scalar's own is Bad: decoded and encoded, only those are as they were.
func TestEachScalarHasOneRowOfBytes(t *testing.T) {
	for _, s := range []string{
		"\xc0\x80", "\xc1\xbf", "\xe0\x80\x80", "\xe0\x9f\xbf", "\xf0\x80\x80\x80", "\xf0\x8f\xbf\xbf",
		"\xf8\x88\x80\x80\x80", "\xfc\x84\x80\x80\x80\x80",
	} {
		if got := decode(t, s); !slices.Equal(got, bads(len(s))) {
			t.Errorf("Decode %q: %x", s, got)
		}
	}
	eachText(4, func(s string) {
		if l := decode(t, s); len(l) == 1 && l[0] != api.Bad && encode(t, l) != s {
			t.Errorf("%q tells %x, too", s, l[0])
		}
	})
}

func bads(n int) []int {
	return slices.Repeat([]int{api.Bad}, n)
}

// B2: Bad stands for the longest beginning; what ends it is looked at by itself.
func TestDecodeOfWrongBytes(t *testing.T) {
	const bad = api.Bad
	for _, c := range []struct {
		s    string
		want []int
	}{
		{"", nil},
		{"\x80", bads(1)}, {"\x80\xbf", bads(2)}, {"\xff\xfe", bads(2)}, {"\xc0\xc1\xf5\xf8", bads(4)},
		{"\xc2", bads(1)}, {"\xe2", bads(1)}, {"\xe2\x82", bads(1)}, {"\xf0\x9f", bads(1)}, {"\xf0\x9f\x98", bads(1)},
		{"\xc2a", []int{bad, 'a'}}, {"\xe2\x82a", []int{bad, 'a'}}, {"\xf0\x9f\x98a", []int{bad, 'a'}},
		{"a\xe2\x82b", []int{'a', bad, 'b'}}, {"\xe2\xe2\x82\xac", []int{bad, 0x20AC}},
		{"\xf0\x9f\xe2\x82\xac", []int{bad, 0x20AC}}, {"\xe2\x82\xf0\x9f\x98\x80", []int{bad, 0x1F600}},
		{"\xe2\x82\xac\x80", []int{0x20AC, bad}}, {"\xe2\x82\xc0", bads(2)}, {"\xe2\x82\x00", []int{bad, 0}},
		{"\xed\xa0\x80", bads(3)}, {"\xed\xbf\xbf", bads(3)}, {"\xed\xa0\xbd\xed\xb8\x80", bads(6)},
		{"\xed\x9f", bads(1)}, {"\xed\x9fa", []int{bad, 'a'}},
		{"\xf4\x90\x80\x80", bads(4)}, {"\xf4\x8f\xbf", bads(1)}, {"\xf4\x8f\xbfa", []int{bad, 'a'}},
		{"\xf5\x80\x80\x80", bads(4)}, {"\xe0\x80", bads(2)}, {"\xe0\xa0", bads(1)}, {"\xf0\x90", bads(1)},
		{"\xf0\x8f", bads(2)}, {"\xe2\x82\xe2\x82", bads(2)},
	} {
		if got := decode(t, c.s); !slices.Equal(got, c.want) {
			t.Errorf("Decode %q: %x", c.s, got)
		}
	}
}

// B2: only an unfinished scalar at the very end waits.
func TestSplit(t *testing.T) {
	for _, c := range []struct {
		s    string
		want int
	}{
		{"", 0}, {"a", 0}, {"\x80", 0}, {"\xff", 0}, {"\xc0", 0}, {"\xc1", 0}, {"\xf5", 0},
		{"\xc2", 1}, {"\xdf", 1}, {"\xe0", 1}, {"\xed", 1}, {"\xef", 1}, {"\xf0", 1}, {"\xf4", 1},
		{"\xc2\x80", 0}, {"\xe2\x82", 2}, {"\xe2\x82\xac", 0}, {"\xf0\x9f", 2}, {"\xf0\x9f\x98", 3}, {"\xf0\x9f\x98\x80", 0},
		{"\xe0\xa0", 2}, {"\xe0\x9f", 0}, {"\xed\x9f", 2}, {"\xed\xa0", 0}, {"\xf0\x90", 2}, {"\xf0\x8f", 0},
		{"\xf4\x8f", 2}, {"\xf4\x8f\xbf", 3}, {"\xf4\x90", 0}, {"\xf4\x90\x80", 0},
		{"a\xe2\x82", 2}, {"\xe2\x82a", 0}, {"\xe2\x82\xe2\x82", 2}, {"\xe2\xe2\x82", 2}, {"\xe2\xe2", 1},
		{"\xf0\x9f\xc2", 1}, {"\xe2\x82\xac\x82", 0}, {"\xe2\x82\xac\xe2", 1}, {"\x80\x80\xf0\x9f\x98", 3},
	} {
		if got := split(t, c.s); got != c.want {
			t.Errorf("Split %q: %d, not %d", c.s, got, c.want)
		}
	}
}

// B2: short texts of bytes at the edges, against the document's words taken literally.
func TestAgainstTheWords(t *testing.T) {
	for n := range 5 {
		eachText(n, func(s string) {
			want := wanted(s)
			if got := decode(t, s); !slices.Equal(got, want) {
				t.Errorf("Decode %q: %x, not %x", s, got, want)
			}
			if got := split(t, s); got != waiting(s) {
				t.Errorf("Split %q: %d, not %d", s, got, waiting(s))
			}
		})
	}
}

// B2: what Split cuts off may come again ahead of what is to come: nothing else is told.
func TestWhatIsSplitOffMayWait(t *testing.T) {
	eachText(4, func(s string) {
		for at := range 5 {
			head := s[:at]
			cut := at - split(t, head)
			if got := append(decode(t, s[:cut]), decode(t, s[cut:])...); !slices.Equal(got, decode(t, s)) {
				t.Errorf("%q cut at %d: %x", s, cut, got)
			}
		}
	})
}

// eachText of so many bytes that lie at the edges of what is told apart.
func eachText(n int, try func(string)) {
	const edges = "\x00a\x7f\x80\x8f\x90\x9f\xa0\xbf\xc0\xc1\xc2\xdf\xe0\xe1\xec\xed\xee\xef\xf0\xf1\xf3\xf4\xf5\xff"
	b := make([]byte, n)
	var fill func(int)
	fill = func(at int) {
		if at == n {
			try(string(b))
			return
		}
		for i := range len(edges) {
			b[at] = edges[i]
			fill(at + 1)
		}
	}
	fill(0)
}

// whole: is a text all of a scalar's bytes?
func whole(s string) bool {
	return library.ValidString(s) && library.RuneCountInString(s) == 1
}

// beginning: is a text the beginning of some scalar's bytes, but not all of them?
func beginning(s string) bool {
	return s != "" && !library.FullRuneInString(s)
}

// wanted: what the document asks of Decode.
func wanted(s string) []int {
	var l []int
	for s != "" {
		point, size := api.Bad, 1
		for n := 1; n <= min(4, len(s)); n++ {
			if whole(s[:n]) {
				r, _ := library.DecodeRuneInString(s)
				point, size = int(r), n
				break
			}
			if beginning(s[:n]) {
				size = n
			}
		}
		l, s = append(l, point), s[size:]
	}
	return l
}

// waiting: what the document asks of Split.
func waiting(s string) int {
	for n := min(3, len(s)); n > 0; n-- {
		ahead, end := s[:len(s)-n], s[len(s)-n:]
		if beginning(end) && slices.Equal(append(wanted(ahead), api.Bad), wanted(s)) {
			return n
		}
	}
	return 0
}

// B1, B2, P1: MaxText bytes, or scalars, and one more.
func TestLongest(t *testing.T) {
	for _, b := range []string{"a", "\x80", "\xe2"} {
		if got := decode(t, strings.Repeat(b, api.MaxText)); len(got) != api.MaxText {
			t.Errorf("Decode of %q: %d code points", b, len(got))
		}
	}
	end := strings.Repeat("a", api.MaxText-3) + "\xf0\x9f\x98"
	if got := split(t, end); got != 3 {
		t.Errorf("Split: %d", got)
	}
	if got := decode(t, end); len(got) != api.MaxText-2 || got[api.MaxText-3] != api.Bad {
		t.Errorf("Decode: %d code points", len(got))
	}
	for _, s := range []string{"a" + end, strings.Repeat("\xe2\x82\xac", api.MaxText/3) + "a", strings.Repeat("a", 1<<20)} {
		if got, e := utf8.Decode(s); len(got) != 0 || e != api.ErrMany {
			t.Errorf("Decode of %d bytes: %d code points, %d", len(s), len(got), e)
		}
		if got, e := utf8.Split(s); got != 0 || e != api.ErrMany {
			t.Errorf("Split of %d bytes: %d %d", len(s), got, e)
		}
	}
	for _, n := range []int{0, 'a', 0x7FF, 0xFFFF, api.Most} {
		want := strings.Repeat(string(rune(n)), api.MaxText)
		if got := encode(t, slices.Repeat([]int{n}, api.MaxText)); got != want {
			t.Errorf("Encode of %x, often: %d bytes", n, len(got))
		}
	}
	for _, n := range []int{0, api.Most, -1, 0xD800, api.Most + 1} { // ErrMany is named ahead of ErrRange
		if got, e := utf8.Encode(slices.Repeat([]int{n}, api.MaxText+1)); got != "" || e != api.ErrMany {
			t.Errorf("Encode of %x, too often: %q %d", n, got, e)
		}
	}
	if got, e := utf8.Encode(append(make([]int, api.MaxText-1), -1)); got != "" || e != api.ErrRange {
		t.Errorf("Encode of a last one that is wrong: %q %d", got, e)
	}
}

// P2: a list may be nil or just empty.
func TestEmpty(t *testing.T) {
	for _, l := range [][]int{nil, {}} {
		if got := encode(t, l); got != "" {
			t.Errorf("Encode of nothing: %q", got)
		}
	}
	if got := decode(t, ""); len(got) != 0 {
		t.Errorf("Decode of nothing: %x", got)
	}
}

// P2: a list that is handed in is only read, the spare room behind it too.
func TestEncodeOnlyReads(t *testing.T) {
	for _, wrong := range []int{0x20AC, -1} {
		room := []int{'a', wrong, 0x1F600, 7, 8, 9}
		before := slices.Clone(room)
		utf8.Encode(room[:3])
		if !slices.Equal(room, before) {
			t.Errorf("Encode changed what it was handed: %x", room)
		}
	}
}

// P2, P3: answers share no memory, and a call answers the same again.
func TestAnswersAreTheCallers(t *testing.T) {
	const s = "a\xe2\x82\xac\xff\xf0\x9f"
	want := []int{'a', 0x20AC, api.Bad, api.Bad}
	one, two := decode(t, s), decode(t, s)
	all := one[:cap(one)]
	for i := range all {
		all[i] = -1
	}
	if !slices.Equal(two, want) || !slices.Equal(decode(t, s), want) {
		t.Errorf("Decode: %x, then %x", two, decode(t, s))
	}
	l := []int{'a', 0x20AC}
	was := encode(t, l)
	l[0] = 'b'
	if was != "a\xe2\x82\xac" || encode(t, l) != "b\xe2\x82\xac" || split(t, s) != 2 || split(t, s) != 2 {
		t.Errorf("Encode: %q, then %q", was, encode(t, l))
	}
}
