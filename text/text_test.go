package text_test

import (
	"slices"
	"strings"
	"testing"
	"unsafe"

	"cartouche/api"
	"cartouche/encoder"
	"cartouche/front"
	"cartouche/stream"
	"cartouche/text"
)

const (
	most = int(^uint(0) >> 1)
	bad  = api.Bad
	bom  = "\xef\xbb\xbf"
)

// all encodings that there are.
func all() []int {
	return []int{api.Utf8, api.Utf16l, api.Utf16b, api.Latin, api.User, api.Kana, api.Stop}
}

// noEncodings: numbers that are no encoding's.
func noEncodings() []int {
	return []int{api.None, -1, 8, 9, 256 + api.Utf8, 1<<32 + api.Latin, most, -most - 1}
}

// isUtf8: is UTF-8 written for it?
func isUtf8(encoding int) bool {
	return slices.Contains([]int{api.Utf8, api.Utf16l, api.Utf16b, api.Stop}, encoding)
}

// isDecoded: what Decode answers of a text.
func isDecoded(t *testing.T, name, s string, encoding, why int, want ...int) {
	t.Helper()
	if l, n, w, e := text.Decode(name, s); !slices.Equal(l, want) || n != encoding || w != why || e != api.OK {
		t.Errorf("Decode %.20q %.60q: %.200x %d %d %d, not %.200x %d %d", name, s, l, n, w, e, want, encoding, why)
	}
}

// recode a text, of which no error is asked for.
func recode(t *testing.T, name, s string, encoding int) string {
	t.Helper()
	got, e := text.Recode(name, s, encoding)
	if e != api.OK {
		t.Errorf("Recode %.20q %.60q %d: error %d", name, s, encoding, e)
	}
	return got
}

// isRecoded: what Recode answers of a text.
func isRecoded(t *testing.T, name, s string, encoding int, want string) {
	t.Helper()
	if got := recode(t, name, s, encoding); got != want {
		t.Errorf("Recode %.20q %.60q %d: %.80q, not %.80q", name, s, encoding, got, want)
	}
}

// points of a text that is plain.
func points(s string) []int {
	var l []int
	for _, c := range []byte(s) {
		l = append(l, int(c))
	}
	return l
}

// eachText of up to so many of some parts.
func eachText(some []string, n int, try func(string)) {
	try("")
	for i := 0; i < len(some) && n > 0; i++ {
		eachText(some, n-1, func(s string) { try(some[i] + s) })
	}
}

// L1: each encoding, by each way to choose it; the bytes of a mark are no code point, those behind it may be.
func TestDecode(t *testing.T) {
	isDecoded(t, "latin1", bom+"\xe2\x82\xac", api.Utf8, api.ByMark, 0x20AC)
	isDecoded(t, "utf-8", "\xff\xfe\xac\x20", api.Utf16l, api.ByMark, 0x20AC)
	isDecoded(t, "", "\xfe\xff\x20\xac\xd8", api.Utf16b, api.ByMark, 0x20AC, bad)
	isDecoded(t, "", bom+bom, api.Utf8, api.ByMark, 0xFEFF)
	isDecoded(t, "no", "\xfe\xff\xfe\xff", api.Utf16b, api.ByMark, 0xFEFF)
	for name, encoding := range map[string]int{bom: api.Utf8, "\xfe\xff": api.Utf16b, "\xff\xfe": api.Utf16l} {
		isDecoded(t, "replacement", name, encoding, api.ByMark)
	}

	const s = "a\xe2\x82\xac"
	isDecoded(t, " UTF-8 ", s, api.Utf8, api.ByLabel, 'a', 0x20AC)
	isDecoded(t, "utf-16", s, api.Utf16l, api.ByLabel, 0xE261, 0xAC82)
	isDecoded(t, "utf-16be", s, api.Utf16b, api.ByLabel, 0x61E2, 0x82AC)
	isDecoded(t, "latin1", s, api.Latin, api.ByLabel, 'a', 0xE2, 0x201A, 0xAC)
	isDecoded(t, "x-user-defined", s, api.User, api.ByLabel, 'a', 0xF7E2, 0xF782, 0xF7AC)
	isDecoded(t, "iso-2022-jp", "\x1b(I!\x1b(Ja\\", api.Kana, api.ByLabel, 0xFF61, 'a', 0xA5)
	isDecoded(t, "hz-gb-2312", s, api.Stop, api.ByLabel, bad)
	isDecoded(t, "utf-8", "x"+bom, api.Utf8, api.ByLabel, 'x', 0xFEFF)
	isDecoded(t, "utf-8", "\xef\xbb", api.Utf8, api.ByLabel, bad)
	isDecoded(t, "replacement", "", api.Stop, api.ByLabel)

	for name, encoding := range map[string]int{"utf-8": api.Utf8, "utf-16": api.Utf8, "x-user-defined": api.Latin, "iso-2022-jp": api.Kana} {
		m := "<meta charset=" + name + ">"
		isDecoded(t, "no", m, encoding, api.ByMeta, points(m)...)
	}
	isDecoded(t, "", "<meta charset=replacement>", api.Stop, api.ByMeta, bad)
	isDecoded(t, "latin1", "<meta charset=replacement>", api.Latin, api.ByLabel, points("<meta charset=replacement>")...)

	isDecoded(t, "", s, api.Latin, api.ByFallback, 'a', 0xE2, 0x201A, 0xAC)
	isDecoded(t, "no", "", api.Latin, api.ByFallback)
	isDecoded(t, "", "\xef\xbb", api.Latin, api.ByFallback, 0xEF, 0xBB)
	late := strings.Repeat("x", api.MaxScan) + "<meta charset=utf-8>"
	isDecoded(t, "", late, api.Latin, api.ByFallback, points(late)...)
}

// L1: all texts of a few parts, with labels of all kinds, as Choose and the decoder say.
func TestDecodeByTheChapters(t *testing.T) {
	eachText([]string{"\xef", "\xbb", "\xbf", "\xfe", "\xff", "a", "\x1b(I", "<meta charset=utf-8>"}, 4, func(s string) {
		for _, name := range []string{"", "no", "utf-8", "utf-16be", "x-user-defined", "iso-2022-jp", "replacement"} {
			encoding, why, size, _ := front.Choose(name, s)
			want, _ := stream.Decode(encoding, s[size:])
			isDecoded(t, name, s, encoding, why, want...)
		}
	})
}

// L1, P1: MaxText bytes of a label and of a text, and of one more: then there is nothing in the answer, and it is told ahead of all that is wrong with the encoding.
func TestLongest(t *testing.T) {
	full := strings.Repeat(" ", api.MaxText-5) + "utf-8"
	isDecoded(t, full, full, api.Utf8, api.ByLabel, points(full)...)
	isDecoded(t, strings.Repeat("x", api.MaxText), bom+full[3:], api.Utf8, api.ByMark, points(full[3:])...)
	isRecoded(t, full, full, api.Latin, full)
	isRecoded(t, full, full, api.Utf8, bom+full)
	fine := []string{"", "utf-8", bom, "\xff\xfe", "<meta charset=latin1>", full}
	try := func(name, s string) {
		if l, n, why, e := text.Decode(name, s); len(l) != 0 || n != api.None || why != 0 || e != api.ErrMany {
			t.Errorf("Decode with %d bytes of %d: %d code points, %d %d %d", len(name), len(s), len(l), n, why, e)
		}
		for _, n := range append(all(), noEncodings()...) {
			if got, e := text.Recode(name, s, n); got != "" || e != api.ErrMany {
				t.Errorf("Recode to %d with %d bytes of %d: %.20q %d", n, len(name), len(s), got, e)
			}
		}
	}
	for _, long := range []string{full + " ", " " + full, bom + full, "\xff\xfe" + full, strings.Repeat("x", 1<<20)} {
		for _, f := range fine {
			try(long, f)
			try(f, long)
		}
		try(long, long)
	}
}

// L1: one text to each encoding: by its Output, and with the mark of that.
func TestRecode(t *testing.T) {
	const s = "a\\\xe2\x82\xac\xc2\xa5\xef\xbd\xa1\xef\x9e\x80\xff" // a, \, the euro, the yen, a kana, one of x-user-defined, and what is Bad
	want := map[int]string{
		api.Latin: "a\\\x80\xa5&#65377;&#63360;&#65533;",
		api.User:  "a\\&#8364;&#165;&#65377;\x80&#65533;",
		api.Kana:  "a\\&#8364;\x1b(J\x5c\x1b(I!\x1b(B&#63360;&#65533;",
	}
	for _, n := range all() {
		w, ok := want[n]
		if !ok {
			w = bom + strings.Replace(s, "\xff", "\xef\xbf\xbd", 1)
		}
		isRecoded(t, "utf-8", s, n, w)
		isRecoded(t, "latin1", bom+s, n, w) // a mark is not told as a code point
		empty := ""
		if !ok {
			empty = bom
		}
		for _, nothing := range []string{"", bom, "\xfe\xff", "\xff\xfe"} {
			isRecoded(t, "", nothing, n, empty)
		}
	}
	isRecoded(t, "", "\x80", api.Utf8, bom+"\xe2\x82\xac")
	isRecoded(t, "", "\x80", api.Latin, "\x80")
	isRecoded(t, "x-user-defined", "\x80", api.User, "\x80")
	isRecoded(t, "x-user-defined", "\x80", api.Stop, bom+"\xef\x9e\x80")
	isRecoded(t, "replacement", "abc", api.Utf16l, bom+"\xef\xbf\xbd")
	isRecoded(t, "replacement", "abc", api.Latin, "&#65533;")
	isRecoded(t, "", "\xff\xfea\x00\x3d\xd8\x00\xde", api.Utf16l, bom+"a\xf0\x9f\x98\x80") // UTF-16 is not written
	isRecoded(t, "", "\xfe\xff\x00a\xd8\x3d\xde\x00", api.Kana, "a&#128512;")
	isRecoded(t, "iso-2022-jp", "\x1b(I!_\x1b(J~", api.Kana, "\x1b(I!_\x1b(J~\x1b(B")
	isRecoded(t, "iso-2022-jp", "\x1b(J\x1b(I", api.Kana, "&#65533;")
	isRecoded(t, "", bom+bom, api.Utf8, bom+bom) // what looks like a mark behind one is a code point
	isRecoded(t, "", bom+bom, api.Latin, "&#65279;")
	isRecoded(t, "utf-8", "\xf4\x8f\xbf\xbf", api.Latin, "&#1114111;")
}

// L1: all texts of a few parts, to each encoding, by the chapters.
func TestRecodeByTheChapters(t *testing.T) {
	eachText([]string{"\xef", "\xbb", "\xbf", "\xfe", "\xff", "a", "\x1b(I", "<meta charset=utf-8>"}, 3, func(s string) {
		for _, name := range []string{"", "utf-8", "utf-16be", "x-user-defined", "iso-2022-jp", "replacement"} {
			l, _, _, _ := text.Decode(name, s)
			for _, n := range all() {
				want, _ := encoder.Encode(n, api.ModeTold, l)
				if isUtf8(n) {
					want = bom + want
				}
				isRecoded(t, name, s, n, want)
			}
		}
	})
}

// L1: what is written may be longer than a text may be.
func TestRecodeToMoreThanMaxText(t *testing.T) {
	s := strings.Repeat("\x80", api.MaxText)
	for _, n := range all() {
		switch {
		case isUtf8(n):
			isRecoded(t, "", s, n, bom+strings.Repeat("\xe2\x82\xac", api.MaxText))
		case n == api.Latin:
			isRecoded(t, "", s, n, s)
		default:
			isRecoded(t, "", s, n, strings.Repeat("&#8364;", api.MaxText))
		}
	}
	for _, long := range []int{api.MaxText, api.MaxText - 1, api.MaxText - 2, api.MaxText - 3} {
		plain := strings.Repeat("x", long)
		isRecoded(t, "", plain, api.Utf8, bom+plain)
		isRecoded(t, "", plain, api.Latin, plain)
	}
}

// L1, P1: no such encoding, whatever the text is.
func TestRecodeToNoEncoding(t *testing.T) {
	for _, n := range noEncodings() {
		for _, s := range []string{"", "a", bom, "\xff\xfe", "\xff", "<meta charset=no>", strings.Repeat("x", api.MaxText)} {
			for _, name := range []string{"", "no", "utf-8"} {
				if got, e := text.Recode(name, s, n); got != "" || e != api.ErrKind {
					t.Errorf("Recode %q to %d: %.20q %d", name, n, got, e)
				}
			}
		}
	}
}

// isCount: what Count answers of a list.
func isCount(t *testing.T, bads, far int, l ...int) {
	t.Helper()
	if n, m, e := text.Count(l); n != bads || m != far || e != api.OK {
		t.Errorf("Count %.100x: %d %d %d, not %d %d", l, n, m, e, bads, far)
	}
}

// L1: Bad is counted twice: it is a scalar of another kind, too.
func TestCount(t *testing.T) {
	isCount(t, 0, 0)
	isCount(t, 0, 0, 0, 1, '\n', 'a', 0x7E, 0x7F)
	isCount(t, 0, 1, 0x7F, 0x80)
	isCount(t, 1, 1, bad)
	isCount(t, 3, 3, bad, bad, 'a', bad)
	isCount(t, 1, 3, bad-1, bad, bad+1)
	isCount(t, 0, 4, 0xD7FF, 0xE000, 0x10000, api.Most)
	for c := range 128 {
		isCount(t, 0, 0, c)
		isCount(t, 0, 1, 128+c)
	}
	l, _, _, _ := text.Decode("utf-8", "a\xff\xe2\x82\xac\xe2\x82")
	isCount(t, 2, 3, l...)
	far := 0
	for point := range api.Most + 1 {
		if point >= 0xD800 && point <= 0xDFFF {
			continue
		}
		if _, m, e := text.Count([]int{point}); e == api.OK {
			far += m
		}
	}
	if far != 0x110000-0x800-128 {
		t.Errorf("Count of each scalar: %d are far", far)
	}
}

// L1, P1: just MaxText code points, and one more; no scalars, of which it is told after that.
func TestCountOfWhatIsWrong(t *testing.T) {
	isCount(t, 0, 0, make([]int, api.MaxText)...)
	isCount(t, api.MaxText, api.MaxText, slices.Repeat([]int{bad}, api.MaxText)...)
	isError := func(want api.Errno, l ...int) {
		if n, m, e := text.Count(l); n != 0 || m != 0 || e != want {
			t.Errorf("Count of %d, %.100x: %d %d %d, not %d", len(l), l, n, m, e, want)
		}
	}
	for _, point := range []int{-1, -0x80, 0xD800, 0xDBFF, 0xDC00, 0xDFFF, api.Most + 1, 1 << 21, 1<<32 + 'a', 1<<32 + bad, most, -most - 1} {
		isError(api.ErrRange, point)
		isError(api.ErrRange, bad, 'a', point)
		isError(api.ErrRange, point, bad, 0x80)
		isError(api.ErrRange, append(make([]int, api.MaxText-1), point)...)
		isError(api.ErrMany, append(make([]int, api.MaxText), point)...)
		isError(api.ErrMany, append([]int{point}, make([]int, api.MaxText)...)...)
	}
	isError(api.ErrMany, make([]int, api.MaxText+1)...)
	isError(api.ErrMany, slices.Repeat([]int{bad}, api.MaxText+1)...)
	isError(api.ErrMany, make([]int, 1<<20)...)
}

// P2: a list that is counted is only read, and the room behind it too, which is none of it.
func TestCountOnlyReads(t *testing.T) {
	l := []int{'a', bad, 0x80, 0xD800, -1, bad}
	was := slices.Clone(l)
	for range 2 {
		isCount(t, 1, 2, l[:3]...)
		isCount(t, 0, 0, l[:1]...)
		text.Count(l)
	}
	if !slices.Equal(l, was) {
		t.Errorf("Count changed a list to %x", l)
	}
	l[0] = bad
	isCount(t, 2, 3, l[:3]...)
}

// P2, P3: a list that came out may be changed, and what was handed in, too: the same is answered again.
func TestAnswersStay(t *testing.T) {
	for _, name := range []string{"", "utf-8", "utf-16", "x-user-defined", "iso-2022-jp", "replacement"} {
		for _, s := range []string{"a\xe2\x82\xac", bom + "a\xe2", "\xff\xfea\x00", "<meta charset=utf-8>\xe2"} {
			l, encoding, why, _ := text.Decode(name, s)
			want := slices.Clone(l)
			written := recode(t, name, s, api.Kana)
			room := l[:cap(l)]
			for i := range room {
				room[i] = -1
			}
			text.Count(l)
			text.Decode("no", strings.Repeat("x", api.MaxText+1))
			isDecoded(t, name, s, encoding, why, want...)
			isRecoded(t, name, s, api.Kana, written)
		}
	}
}

// P2, P3: bytes that change behind the call are not seen in what it answered.
func TestBytesThatChange(t *testing.T) {
	b := []byte("plain \xe2\x82\xac")
	s := unsafe.String(&b[0], len(b))
	was := map[int]string{}
	for _, n := range all() {
		was[n] = recode(t, "", s, n)
	}
	l, _, _, _ := text.Decode("", s)
	same := slices.Clone(l)
	copy(b, "PLAIN ")
	b[6] = 0x80
	if !slices.Equal(l, same) {
		t.Errorf("Decode: %x, which was changed later", l)
	}
	for n, got := range was {
		isRecoded(t, "", "plain \xe2\x82\xac", n, got)
	}
}
