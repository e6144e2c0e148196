package encoder_test

import (
	"slices"
	"strconv"
	"strings"
	"testing"

	"cartouche/api"
	"cartouche/encoder"
	"cartouche/stream"
)

const (
	most  = int(^uint(0) >> 1)
	plain = "\x1b(B"
	roman = "\x1b(J"
	kanas = "\x1b(I"
)

// all encodings that there are.
func all() []int {
	return []int{api.Utf8, api.Utf16l, api.Utf16b, api.Latin, api.User, api.Kana, api.Stop}
}

// noEncodings: numbers that are no encoding's.
func noEncodings() []int {
	return []int{api.None, -1, 8, 9, 256 + api.Utf8, 1<<32 + api.Latin, most, -most - 1}
}

// modes that there are.
func modes() []int {
	return []int{api.ModeStrict, api.ModeTold}
}

// noModes: numbers that are no mode's.
func noModes() []int {
	return []int{-1, 2, 3, 256, 257, 1 << 32, 1<<32 + 1, most, -most - 1}
}

// noScalars: code points that are none.
func noScalars() []int {
	return []int{-1, -0x80, 0xD800, 0xDBFF, 0xDC00, 0xDFFF, api.Most + 1, 1 << 21, 1<<32 + 'a', most, -most - 1}
}

// isUtf8: is it written as UTF-8?
func isUtf8(encoding int) bool {
	return slices.Contains([]int{api.Utf8, api.Utf16l, api.Utf16b, api.Stop}, encoding)
}

// written: the bytes of each code point that has any, by the signs ahead of which an encoding writes them ("" where there are no signs).
func written(encoding int) map[string]map[int]byte {
	low, high := map[int]byte{}, map[int]byte{}
	for b := range 256 {
		switch {
		case b < 0x80:
			low[b], high[b] = byte(b), byte(b)
		case b < 0xA0:
			low[api.High()[b-0x80]] = byte(b)
		default:
			low[b] = byte(b)
		}
		if b >= 0x80 {
			high[0xF700+b] = byte(b)
		}
	}
	switch encoding {
	case api.Latin:
		return map[string]map[int]byte{"": low}
	case api.User:
		return map[string]map[int]byte{"": high}
	}
	return shifted()
}

// shifted: the bytes of iso-2022-jp by their signs.
func shifted() map[string]map[int]byte {
	simple, other, shift := map[int]byte{}, map[int]byte{0xA5: 0x5C, 0x203E: 0x7E}, map[int]byte{}
	for b := range 0x80 {
		if b == 0x0E || b == 0x0F || b == 0x1B {
			continue
		}
		simple[b] = byte(b)
		if b != 0x5C && b != 0x7E {
			other[b] = byte(b)
		}
	}
	for b := 0x21; b <= 0x5F; b++ {
		shift[0xFF40+b] = byte(b)
	}
	return map[string]map[int]byte{plain: simple, roman: other, kanas: shift}
}

// can a scalar be written?
func can(encoding int, bySigns map[string]map[int]byte, point int) bool {
	for _, bytes := range bySigns {
		if _, ok := bytes[point]; ok {
			return true
		}
	}
	return isUtf8(encoding)
}

// wanted: what the document asks of Encode, of scalars; false, if one has no bytes.
func wanted(encoding int, bySigns map[string]map[int]byte, told bool, l []int) (string, bool) {
	var text []int
	for _, point := range l {
		if can(encoding, bySigns, point) {
			text = append(text, point)
			continue
		}
		if !told {
			return "", false
		}
		for _, c := range "&#" + strconv.Itoa(point) + ";" {
			text = append(text, int(c))
		}
	}
	switch {
	case isUtf8(encoding):
		return library(text), true
	case encoding != api.Kana:
		var b []byte
		for _, point := range text {
			b = append(b, bySigns[""][point])
		}
		return string(b), true
	}
	return withEscapes(bySigns, text), true
}

// library: what Go itself has as the UTF-8 of scalars.
func library(l []int) string {
	var r []rune
	for _, point := range l {
		r = append(r, rune(point))
	}
	return string(r)
}

// withEscapes: code points that all have a byte in some signs.
func withEscapes(bySigns map[string]map[int]byte, l []int) string {
	var b []byte
	now := plain
	for _, point := range l {
		for _, signs := range []string{now, plain, roman, kanas} {
			c, ok := bySigns[signs][point]
			if !ok {
				continue
			}
			if signs != now {
				b = append(b, signs...)
			}
			b, now = append(b, c), signs
			break
		}
	}
	if now != plain {
		b = append(b, plain...)
	}
	return string(b)
}

func encode(t *testing.T, encoding, mode int, l []int) string {
	t.Helper()
	got, e := encoder.Encode(encoding, mode, l)
	if e != api.OK {
		t.Errorf("Encode %d %d %x: error %d", encoding, mode, l, e)
	}
	return got
}

// isError: no answer but an error.
func isError(t *testing.T, encoding, mode int, l []int, want api.Errno) {
	t.Helper()
	if got, e := encoder.Encode(encoding, mode, l); got != "" || e != want {
		t.Errorf("Encode %d %d of %d, %x ..: %.40q %d, not %d", encoding, mode, len(l), l[:min(4, len(l))], got, e, want)
	}
}

// G1: what is written for each encoding.
func TestOutput(t *testing.T) {
	for encoding, want := range map[int]int{
		api.Utf8: api.Utf8, api.Utf16l: api.Utf8, api.Utf16b: api.Utf8, api.Stop: api.Utf8,
		api.Latin: api.Latin, api.User: api.User, api.Kana: api.Kana,
	} {
		if got, e := encoder.Output(encoding); got != want || e != api.OK {
			t.Errorf("Output %d: %d %d", encoding, got, e)
		}
		if got, e := encoder.Output(want); got != want || e != api.OK { // what is written is written as itself
			t.Errorf("Output %d: %d %d", want, got, e)
		}
	}
}

// G1, G2, P1: no such encoding; ErrKind is named ahead of all others.
func TestNoEncoding(t *testing.T) {
	for _, n := range noEncodings() {
		if got, e := encoder.Output(n); got != api.None || e != api.ErrKind {
			t.Errorf("Output %d: %d %d", n, got, e)
		}
		for _, point := range append(noScalars(), 0, 'a', 0x20AC, api.Most) {
			if got, e := encoder.Has(n, point); got || e != api.ErrKind {
				t.Errorf("Has %d %x: %v %d", n, point, got, e)
			}
			for _, mode := range append(noModes(), modes()...) {
				isError(t, n, mode, []int{point}, api.ErrKind)
			}
		}
		for _, mode := range append(noModes(), modes()...) {
			isError(t, n, mode, nil, api.ErrKind)
			isError(t, n, mode, make([]int, api.MaxText+1), api.ErrKind)
		}
	}
}

// G1: code points that just can and just can't be written in each encoding that has not all of them.
func TestHasAtTheEdges(t *testing.T) {
	for _, c := range []struct {
		encoding int
		yes, no  []int
	}{
		{api.Utf8, []int{0, 0x7F, 0x80, 0x7FF, 0x800, 0xD7FF, 0xE000, 0xFFFD, 0xFFFF, 0x10000, api.Most}, nil},
		{api.Latin, []int{0, 0x1B, 0x5C, 0x7F, 0x81, 0x8D, 0x8F, 0x90, 0x9D, 0xA0, 0xFF, 0x20AC, 0x152, 0x178, 0x2DC, 0x2122},
			[]int{0x80, 0x82, 0x8C, 0x8E, 0x91, 0x9C, 0x9E, 0x9F, 0x100, 0x151, 0x154, 0x20AB, 0x20AD, 0x2123, 0xF780, 0xFF61, 0xFFFD, api.Most}},
		{api.User, []int{0, 0x1B, 0x7F, 0xF780, 0xF7A0, 0xF7FF}, []int{0x80, 0xA0, 0xFF, 0x20AC, 0xF77F, 0xF800, 0xF700, 0xFFFD, api.Most}},
		{api.Kana, []int{0, 0x0D, 0x10, 0x1A, 0x1C, 0x5C, 0x7E, 0x7F, 0xA5, 0x203E, 0xFF61, 0xFF9F},
			[]int{0x0E, 0x0F, 0x1B, 0x80, 0xA4, 0xA6, 0xFF, 0x203D, 0x203F, 0x3042, 0xFF60, 0xFFA0, 0xFFFD, api.Most}},
	} {
		for _, point := range c.yes {
			if got, e := encoder.Has(c.encoding, point); !got || e != api.OK {
				t.Errorf("Has %d %x: %v %d", c.encoding, point, got, e)
			}
		}
		for _, point := range c.no {
			if got, e := encoder.Has(c.encoding, point); got || e != api.OK {
				t.Errorf("Has %d %x: %v %d", c.encoding, point, got, e)
			}
		}
	}
}

// G1: each code point of the first plane and some beyond it, and no scalars, in each encoding.
func TestHasOfEachPoint(t *testing.T) {
	var points []int
	for n := -0x100; n <= 0x10100; n++ {
		points = append(points, n)
	}
	for n := 0x20000; n <= api.Most+0x1000; n += 0x3FF {
		points = append(points, n)
	}
	points = append(points, api.Most, api.Most+1, 1<<32+'a', 1<<32+0x20AC, most, -most-1)
	for _, encoding := range all() {
		bySigns := written(encoding)
		for _, point := range points {
			want, wrong := false, api.ErrRange
			if point >= 0 && point < 0xD800 || point > 0xDFFF && point <= api.Most {
				want, wrong = can(encoding, bySigns, point), api.OK
			}
			if got, e := encoder.Has(encoding, point); got != want || e != wrong {
				t.Errorf("Has %d %x: %v %d, not %v %d", encoding, point, got, e, want, wrong)
			}
		}
	}
}

// G2: ordinary texts, the bytes written out; where strict is "!", it is ErrNone.
func TestEncode(t *testing.T) {
	for _, c := range []struct {
		encodings    []int
		l            []int
		strict, told string
	}{
		{all(), nil, "", ""},
		{all(), []int{'a', 0, 'b'}, "a\x00b", "a\x00b"},
		{all(), []int{'&', '#', '5', ';'}, "&#5;", "&#5;"}, // what looks like a number already stays
		{[]int{api.Utf8, api.Utf16l, api.Utf16b, api.Stop}, []int{'a', 0xE9, 0x20AC, 0x1F600}, "a\xc3\xa9\xe2\x82\xac\xf0\x9f\x98\x80", "a\xc3\xa9\xe2\x82\xac\xf0\x9f\x98\x80"},
		{[]int{api.Utf8, api.Utf16l, api.Utf16b, api.Stop}, []int{0xFEFF, 0xFFFD}, "\xef\xbb\xbf\xef\xbf\xbd", "\xef\xbb\xbf\xef\xbf\xbd"},
		{[]int{api.Latin}, []int{0xE9, 0x20AC, 0x81}, "\xe9\x80\x81", "\xe9\x80\x81"},
		{[]int{api.Latin}, []int{'a', 0x80, 0x3042, 0xE9}, "!", "a&#128;&#12354;\xe9"},
		{[]int{api.Latin, api.User, api.Kana}, []int{0xFFFD, 'x', api.Most}, "!", "&#65533;x&#1114111;"},
		{[]int{api.User}, []int{0xF780, 'a', 0xF7FF}, "\x80a\xff", "\x80a\xff"},
		{[]int{api.User}, []int{0xF7FF, 0x80, 0xE9, 0xF800}, "!", "\xff&#128;&#233;&#63488;"},
		{[]int{api.Kana}, []int{'a', 0xA5, 'b', 0xFF61}, "a" + roman + "\\b" + kanas + "!" + plain, "a" + roman + "\\b" + kanas + "!" + plain},
		// A number is told by plain signs, and by Roman ones where those are now; kana ones have none of its signs.
		{[]int{api.Kana}, []int{0x1B, 0x0E, 0x0F, 'a'}, "!", "&#27;&#14;&#15;a"},
		{[]int{api.Kana}, []int{'a', 0x20AC, 0xA5}, "!", "a&#8364;" + roman + "\\" + plain},
		{[]int{api.Kana}, []int{0xA5, 0x20AC}, "!", roman + "\\&#8364;" + plain},
		{[]int{api.Kana}, []int{0xA5, 0x20AC, '\\'}, "!", roman + "\\&#8364;" + plain + "\\"},
		{[]int{api.Kana}, []int{0x203E, 0x80, 0x203E}, "!", roman + "~&#128;~" + plain},
		{[]int{api.Kana}, []int{0xFF61, 0x20AC}, "!", kanas + "!" + plain + "&#8364;"},
		{[]int{api.Kana}, []int{0xFF61, 0x20AC, 0xE9, 0xFF9F}, "!", kanas + "!" + plain + "&#8364;&#233;" + kanas + "_" + plain},
		{[]int{api.Kana}, []int{0xA5, 0xFF61, 0x20AC, 0xA5}, "!", roman + "\\" + kanas + "!" + plain + "&#8364;" + roman + "\\" + plain},
	} {
		for _, encoding := range c.encodings {
			if got := encode(t, encoding, api.ModeTold, c.l); got != c.told {
				t.Errorf("Encode %d told %x: %q, not %q", encoding, c.l, got, c.told)
			}
			if c.strict == "!" {
				isError(t, encoding, api.ModeStrict, c.l, api.ErrNone)
			} else if got := encode(t, encoding, api.ModeStrict, c.l); got != c.strict {
				t.Errorf("Encode %d strictly %x: %q, not %q", encoding, c.l, got, c.strict)
			}
		}
	}
}

// eachList of so many of some code points, behind others.
func eachList(some []int, n int, ahead []int, try func([]int)) {
	if n == 0 {
		try(ahead)
		return
	}
	for _, point := range some {
		eachList(some, n-1, append(slices.Clone(ahead), point), try)
	}
}

// G2, G3: all lists of some scalars, against the document's words; what is written strictly is read as it was, and what is told can be written.
func TestAgainstTheWords(t *testing.T) {
	some := []int{'a', '\\', 0x1B, 0x81, 0xA5, 0x203E, 0x20AC, 0xF780, 0xFF61, 0x1F600}
	for _, encoding := range all() {
		bySigns := written(encoding)
		for n := range 5 {
			eachList(some, n, nil, func(l []int) {
				tryWords(t, encoding, bySigns, l)
			})
		}
	}
}

func tryWords(t *testing.T, encoding int, bySigns map[string]map[int]byte, l []int) {
	t.Helper()
	told, _ := wanted(encoding, bySigns, true, l)
	if got := encode(t, encoding, api.ModeTold, l); got != told {
		t.Errorf("Encode %d told %x: %q, not %q", encoding, l, got, told)
	}
	strict, ok := wanted(encoding, bySigns, false, l)
	if !ok {
		isError(t, encoding, api.ModeStrict, l, api.ErrNone)
		return
	}
	if got := encode(t, encoding, api.ModeStrict, l); got != strict || got != told {
		t.Errorf("Encode %d strictly %x: %q, not %q", encoding, l, got, strict)
	}
	tryRead(t, encoding, l, strict)
}

// tryRead: bytes are read as they were written.
func tryRead(t *testing.T, encoding int, l []int, s string) {
	t.Helper()
	output, _ := encoder.Output(encoding)
	if back, e := stream.Decode(output, s); !slices.Equal(back, l) || e != api.OK {
		t.Errorf("%d: %x is written as %q, and read as %x %d", encoding, l, s, back, e)
	}
}

// G1, G2, G3: each scalar by itself, where there are any that some encoding has, and others here and there: it is written strictly just if Has says so, else it is told; both are read as they should be.
func TestEachScalarAlone(t *testing.T) {
	for _, encoding := range all() {
		output, _ := encoder.Output(encoding)
		for n := range 0x10010 {
			if n >= 0xD800 && n <= 0xDFFF || n > 0x2200 && n < 0xF700 && n%16 != 0 {
				continue
			}
			has, _ := encoder.Has(encoding, n)
			want, told := []int{n}, encode(t, encoding, api.ModeTold, []int{n})
			if has {
				if got := encode(t, encoding, api.ModeStrict, []int{n}); got != told {
					t.Errorf("Encode %d %x: strictly %q, told %q", encoding, n, got, told)
				}
			} else {
				isError(t, encoding, api.ModeStrict, []int{n}, api.ErrNone)
				want = nil
				for _, c := range "&#" + strconv.Itoa(n) + ";" {
					want = append(want, int(c))
				}
			}
			if back, e := stream.Decode(output, told); !slices.Equal(back, want) || e != api.OK {
				t.Errorf("%d: %x is told as %q, and read as %x %d", encoding, n, told, back, e)
			}
		}
	}
}

// G2: other modes than the two; ErrState is named ahead of all but ErrKind.
func TestNoMode(t *testing.T) {
	for _, encoding := range all() {
		for _, mode := range noModes() {
			for _, l := range [][]int{nil, {'a'}, {0x20AC}, {-1}, {0xD800}, make([]int, api.MaxText+1)} {
				isError(t, encoding, mode, l, api.ErrState)
			}
		}
	}
}

// G1, G2: no scalar, wherever it stands, in both modes; ErrRange is named ahead of ErrNone, whichever comes first in the list.
func TestNoScalar(t *testing.T) {
	for _, encoding := range all() {
		for _, n := range noScalars() {
			if got, e := encoder.Has(encoding, n); got || e != api.ErrRange {
				t.Errorf("Has %d %x: %v %d", encoding, n, got, e)
			}
			for _, l := range [][]int{{n}, {n, 'a'}, {'a', n}, {0xFFFD, n}, {n, 0xFFFD}, {0xFF61, n}, {0xD83D, n}, {0x1B, 'a', n, 'b'}} {
				for _, mode := range modes() {
					isError(t, encoding, mode, l, api.ErrRange)
				}
			}
		}
	}
}

// G2: a code point that has no bytes, wherever it stands.
func TestNoneAnywhere(t *testing.T) {
	for _, encoding := range []int{api.Latin, api.User, api.Kana} {
		for _, l := range [][]int{{0x3042}, {0x3042, 'a'}, {'a', 0x3042}, {'a', 0x3042, 'b'}, {0x3042, 0x3042}, append(make([]int, api.MaxText-1), 0x3042)} {
			isError(t, encoding, api.ModeStrict, l, api.ErrNone)
			want := strings.ReplaceAll(library(l), "\u3042", "&#12354;")
			if got := encode(t, encoding, api.ModeTold, l); got != want {
				t.Errorf("Encode %d told %d code points: %d bytes", encoding, len(l), len(got))
			}
		}
	}
}

// G2, P1: a list of just MaxText code points, however many bytes they become, and of one more; ErrMany is named ahead of ErrRange and ErrNone.
func TestLongest(t *testing.T) {
	lists := [][]int{{'a'}, {0xE9}, {0x20AC}, {0xF780}, {0xA5}, {0xFF61}, {0x3042}, {api.Most}, {0xA5, 0xFF61}, {0xFF61, 0x3042}, {0xA5, 0x3042}, {'a', 0x81, 0xFFFD}}
	for _, encoding := range all() {
		bySigns := written(encoding)
		for _, l := range lists {
			long := slices.Repeat(l, api.MaxText)[:api.MaxText]
			for _, mode := range modes() {
				want, ok := wanted(encoding, bySigns, mode == api.ModeTold, long)
				if !ok {
					isError(t, encoding, mode, long, api.ErrNone)
				} else if got := encode(t, encoding, mode, long); got != want {
					t.Errorf("Encode %d %d of %x, often: %d bytes, not %d", encoding, mode, l, len(got), len(want))
				}
				isError(t, encoding, mode, append(slices.Clone(long[:api.MaxText-1]), 0xD800), api.ErrRange)
				isError(t, encoding, mode, append(slices.Clone(long), 'a'), api.ErrMany)
				isError(t, encoding, mode, append(slices.Clone(long), -1), api.ErrMany)
			}
		}
		for _, mode := range modes() {
			isError(t, encoding, mode, slices.Repeat([]int{-1}, api.MaxText+1), api.ErrMany)
			isError(t, encoding, mode, make([]int, 1<<20), api.ErrMany)
		}
	}
}

// G3: long lists that can be written strictly are read as they were.
func TestLongIsReadAsItWas(t *testing.T) {
	for _, encoding := range all() {
		for _, c := range []struct {
			l    []int
			size int // how many bytes they have at most, in any encoding
		}{
			{[]int{'a'}, 1}, {[]int{0x20AC}, 3}, {[]int{0xF780, 'b'}, 4}, {[]int{0x81, 0xE9}, 4}, {[]int{0xA5, '\\', 0xFF61}, 12}, {[]int{api.Most}, 4},
		} {
			long := slices.Repeat(c.l, api.MaxText/c.size-1)
			if got, e := encoder.Encode(encoding, api.ModeStrict, long); e == api.OK {
				tryRead(t, encoding, long, got)
			} else if e != api.ErrNone || got != "" || isUtf8(encoding) {
				t.Errorf("Encode %d of %x, often: %d bytes, %d", encoding, c.l, len(got), e)
			}
		}
	}
}

// P2: a list may be nil or just empty.
func TestEmpty(t *testing.T) {
	for _, encoding := range all() {
		for _, mode := range modes() {
			for _, l := range [][]int{nil, {}, make([]int, 0, 4)} {
				if got := encode(t, encoding, mode, l); got != "" {
					t.Errorf("Encode %d of nothing: %q", encoding, got)
				}
			}
		}
	}
}

// P2: a list that is handed in is only read, the spare room behind it too.
func TestEncodeOnlyReads(t *testing.T) {
	for _, encoding := range all() {
		for _, mode := range append(noModes(), modes()...) {
			for _, n := range []int{'b', 0x20AC, 0x3042, -1} {
				room := []int{'a', n, 0xFF61, 7, 8, 9, 10, 11, 12, 13, 14, 15}
				before := slices.Clone(room)
				encoder.Encode(encoding, mode, room[:3])
				if !slices.Equal(room, before) {
					t.Errorf("Encode %d %d changed what it was handed: %x", encoding, mode, room)
				}
			}
		}
	}
}

// P2, P3: a later change of the list is not seen, and a call answers the same again, whatever was written meanwhile.
func TestAnswersStay(t *testing.T) {
	for _, encoding := range all() {
		l := []int{'a', 0xA5, 0x3042, 0xFF61}
		was := encode(t, encoding, api.ModeTold, l)
		want := strings.Clone(was)
		has, _ := encoder.Has(encoding, 0xFF61)
		l[0], l[2] = 0xFF61, 'b'
		for _, other := range append(all(), noEncodings()...) {
			for _, mode := range modes() {
				encoder.Encode(other, mode, l)
				encoder.Encode(other, mode, []int{0xA5, 0xFF61, -1})
				encoder.Has(other, 0x20AC)
			}
		}
		l[0], l[2] = 'a', 0x3042
		if again := encode(t, encoding, api.ModeTold, l); was != want || again != want {
			t.Errorf("Encode %d: %q, then %q and %q", encoding, want, was, again)
		}
		if again, e := encoder.Has(encoding, 0xFF61); again != has || e != api.OK {
			t.Errorf("Has %d: %v, then %v %d", encoding, has, again, e)
		}
	}
}
