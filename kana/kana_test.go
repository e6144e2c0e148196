package kana_test

import (
	"slices"
	"strings"
	"testing"

	"cartouche/api"
	"cartouche/kana"
)

const (
	most  = int(^uint(0) >> 1)
	plain = "\x1b(B"
	roman = "\x1b(J"
	kanas = "\x1b(I"
	bad   = api.Bad
)

func decode(t *testing.T, s string) []int {
	t.Helper()
	got, e := kana.Decode(s)
	if e != api.OK {
		t.Errorf("Decode %q: error %d", s, e)
	}
	return got
}

func encode(t *testing.T, l []int) string {
	t.Helper()
	got, e := kana.Encode(l)
	if e != api.OK {
		t.Errorf("Encode %x: error %d", l, e)
	}
	return got
}

func bads(n int) []int {
	return slices.Repeat([]int{bad}, n)
}

// pointsBySigns of all bytes, as the document tells them.
func pointsBySigns() map[string][]int {
	simple, shifted := bads(256), bads(256)
	for b := range 128 {
		simple[b] = b
	}
	simple[0x0E], simple[0x0F], simple[0x1B] = bad, bad, bad
	for b := 0x21; b <= 0x5F; b++ {
		shifted[b] = 0xFF61 + b - 0x21
	}
	other := slices.Clone(simple)
	other[0x5C], other[0x7E] = 0xA5, 0x203E
	return map[string][]int{plain: simple, roman: other, kanas: shifted}
}

// E1: each byte by itself, by each of the signs; they are plain at first.
func TestEachByte(t *testing.T) {
	for escape, points := range pointsBySigns() {
		for b, want := range points {
			s := string([]byte{byte(b)})
			if got := decode(t, escape+s); !slices.Equal(got, []int{want}) {
				t.Errorf("Decode %q: %x, not %x", escape+s, got, want)
			}
			if got := decode(t, escape+s+s); !slices.Equal(got, []int{want, want}) {
				t.Errorf("Decode %q: %x, not %x twice", escape+s+s, got, want)
			}
			if escape == plain && !slices.Equal(decode(t, s), []int{want}) {
				t.Errorf("Decode %q: %x, not %x", s, decode(t, s), want)
			}
		}
	}
}

// E1: escapes, alone and behind one another, and what looks like one.
func TestEscapes(t *testing.T) {
	for _, c := range []struct {
		s    string
		want []int
	}{
		{"", nil}, {plain, nil}, {roman, nil}, {kanas, nil},
		{kanas + "!_" + roman + "\\~a" + plain + "\\~a", []int{0xFF61, 0xFF9F, 0xA5, 0x203E, 'a', '\\', '~', 'a'}},
		{"\\" + roman + "\\" + kanas + "\\" + plain + "\\", []int{'\\', 0xA5, 0xFF9C, '\\'}},
		{"a" + kanas, []int{'a'}}, {"a" + kanas + "!" + plain, []int{'a', 0xFF61}},
		// One just behind another shifts, and is a Bad.
		{plain + plain, bads(1)}, {kanas + kanas, bads(1)}, {kanas + plain + "a", []int{bad, 'a'}},
		{plain + roman + "\\", []int{bad, 0xA5}}, {roman + kanas + "!", []int{bad, 0xFF61}},
		{"a" + plain + kanas + "!", []int{'a', bad, 0xFF61}},
		{plain + roman + kanas, bads(2)}, {plain + roman + kanas + "z", bads(3)}, {kanas + roman + plain + "~", []int{bad, bad, '~'}},
		{kanas + kanas + kanas + kanas + "!", []int{bad, bad, bad, 0xFF61}},
		// Something between: a sign, or a Bad.
		{kanas + "!" + plain + "a" + kanas + "!", []int{0xFF61, 'a', 0xFF61}},
		{plain + "\x80" + kanas + "!", []int{bad, 0xFF61}}, {kanas + "a" + plain + "a", []int{bad, 'a'}},
		{plain + "\x1b" + kanas + "!", []int{bad, 0xFF61}}, {kanas + "\x1b(" + roman + "~", []int{bad, 0xFF68, 0x203E}},
		{plain + "\x0e" + roman + kanas + "!", []int{bad, bad, 0xFF61}}, {plain + roman + "\x0f" + kanas + "!", []int{bad, bad, 0xFF61}},
		// One that breaks off at the end.
		{"\x1b", bads(1)}, {"\x1b(", []int{bad, '('}}, {kanas + "\x1b", bads(1)}, {kanas + "\x1b(", []int{bad, 0xFF68}},
		{"a\x1b", []int{'a', bad}}, {plain + roman + "\x1b(", []int{bad, bad, '('}},
		// A 0x1B that begins none: what is behind it is looked at by itself.
		{"\x1ba", []int{bad, 'a'}}, {"\x1b\x1b", bads(2)}, {"\x1b\x1b(I!", []int{bad, 0xFF61}}, {"\x1b(\x1b(I!", []int{bad, '(', 0xFF61}},
		{"\x1b(x", []int{bad, '(', 'x'}}, {"\x1b(A", []int{bad, '(', 'A'}}, {"\x1b(b", []int{bad, '(', 'b'}}, {"\x1b(j", []int{bad, '(', 'j'}},
		{"\x1b(i", []int{bad, '(', 'i'}}, {"\x1b(C", []int{bad, '(', 'C'}}, {"\x1b(H", []int{bad, '(', 'H'}}, {"\x1b(K", []int{bad, '(', 'K'}},
		{"\x1b)B", []int{bad, ')', 'B'}}, {"\x1b$B", []int{bad, '$', 'B'}}, {"\x1bB", []int{bad, 'B'}}, {"\x1b(\x80", []int{bad, '(', bad}},
		{kanas + "\x1b(x!", []int{bad, 0xFF68, bad, 0xFF61}}, {roman + "\x1b\\", []int{bad, 0xA5}}, {"(B(I!", []int{'(', 'B', '(', 'I', '!'}},
		{"\x1b(\x00", []int{bad, '(', 0}}, {"\x1b\x00B", []int{bad, 0, 'B'}},
	} {
		if got := decode(t, c.s); !slices.Equal(got, c.want) {
			t.Errorf("Decode %q: %x, not %x", c.s, got, c.want)
		}
	}
}

// E1: each third byte behind the two that begin an escape.
func TestEachEscape(t *testing.T) {
	for c := range 256 {
		s := "\x1b(" + string([]byte{byte(c)}) + "\\"
		want := []int{bad, '(', pointsBySigns()[plain][c], '\\'}
		switch c {
		case 'B':
			want = []int{'\\'}
		case 'J':
			want = []int{0xA5}
		case 'I':
			want = []int{0xFF9C}
		}
		if got := decode(t, s); !slices.Equal(got, want) {
			t.Errorf("Decode %q: %x, not %x", s, got, want)
		}
	}
}

// E1: all texts of some bytes, and of some bytes and escapes, against the document's words taken literally.
func TestDecodeAgainstTheWords(t *testing.T) {
	bySigns := pointsBySigns()
	try := func(s string) {
		if got, want := decode(t, s), wanted(bySigns, s); !slices.Equal(got, want) {
			t.Errorf("Decode %q: %x, not %x", s, got, want)
		}
	}
	for n := range 7 {
		eachText(strings.Split("\x1b(BJI\\\x80", ""), n, try)
	}
	for n := range 6 {
		eachText([]string{plain, roman, kanas, "\x1b", "(", "a", "~", "\xff"}, n, try)
	}
}

// eachText of so many of some parts.
func eachText(some []string, n int, try func(string)) {
	if n == 0 {
		try("")
		return
	}
	for _, part := range some {
		eachText(some, n-1, func(s string) { try(part + s) })
	}
}

// wanted: what the document asks of Decode.
func wanted(bySigns map[string][]int, s string) []int {
	var l []int
	signs, behind := plain, false
	for s != "" {
		if len(s) >= 3 && bySigns[s[:3]] != nil {
			if behind {
				l = append(l, bad)
			}
			signs, behind, s = s[:3], true, s[3:]
			continue
		}
		l = append(l, bySigns[signs][s[0]])
		behind, s = false, s[1:]
	}
	return l
}

// E2: each code point by itself; and E3.
func TestEachPoint(t *testing.T) {
	bytes := map[int]string{0xA5: roman + "\\" + plain, 0x203E: roman + "~" + plain}
	for n := range 128 {
		if n != 0x0E && n != 0x0F && n != 0x1B {
			bytes[n] = string([]byte{byte(n)})
		}
	}
	for n := range 63 {
		bytes[0xFF61+n] = kanas + string([]byte{byte(0x21 + n)}) + plain
	}
	for n := -0x200; n <= api.Most+0x200; n++ {
		got, e := kana.Encode([]int{n})
		want, ok := bytes[n]
		if !ok {
			if got != "" || e != api.ErrNone {
				t.Errorf("Encode %x, which has no byte: %q %d", n, got, e)
			}
			continue
		}
		if got != want || e != api.OK {
			t.Errorf("Encode %x: %q %d, not %q", n, got, e, want)
		}
		if back := decode(t, got); !slices.Equal(back, []int{n}) {
			t.Errorf("Decode %q: %x, not %x", got, back, n)
		}
	}
}

// E2: which signs are chosen; what several have is told by those that are now, else plain ones are ahead of Roman ones.
func TestEncodeShifts(t *testing.T) {
	for _, c := range []struct {
		l    []int
		want string
	}{
		{nil, ""}, {[]int{'a', 'b'}, "ab"}, {[]int{'\\', '~'}, "\\~"},
		{[]int{0xA5, 'a', '\\', 0xA5}, roman + "\\a" + plain + "\\" + roman + "\\" + plain},
		{[]int{0xA5, 0x203E, 'z', 0, 0x7F}, roman + "\\~z\x00\x7f" + plain},
		{[]int{'a', 0xA5, 'a', '~', 'a', 0x203E}, "a" + roman + "\\a" + plain + "~a" + roman + "~" + plain},
		{[]int{0xFF61, 0xFF9F, 'a'}, kanas + "!_" + plain + "a"},
		{[]int{0xFF61, 'a', 0xFF61}, kanas + "!" + plain + "a" + kanas + "!" + plain},
		{[]int{0xFF61, 0xA5, 0xFF61}, kanas + "!" + roman + "\\" + kanas + "!" + plain},
		{[]int{0xA5, 0xFF61, 'a', 0xA5}, roman + "\\" + kanas + "!" + plain + "a" + roman + "\\" + plain},
		{[]int{0xFF61, 0xA5, 'a'}, kanas + "!" + roman + "\\a" + plain},
		{[]int{0x203E, '~', '}'}, roman + "~" + plain + "~}"},
	} {
		if got := encode(t, c.l); got != c.want {
			t.Errorf("Encode %x: %q, not %q", c.l, got, c.want)
		}
	}
}

// E2, E3: all lists of some code points, against the document's words; they are decoded as they were.
func TestEncodeAgainstTheWords(t *testing.T) {
	bySigns := pointsBySigns()
	some := []int{'a', '\\', '~', 0xA5, 0x203E, 0xFF61, 0xFF9F}
	for n := range 6 {
		eachList(some, n, nil, func(l []int) {
			got := encode(t, l)
			if want := wantedBytes(bySigns, l); got != want {
				t.Errorf("Encode %x: %q, not %q", l, got, want)
			}
			if back := decode(t, got); !slices.Equal(back, l) {
				t.Errorf("Decode %q: %x, not %x", got, back, l)
			}
		})
	}
}

// eachList of so many of some code points, behind others.
func eachList(some []int, n int, ahead []int, try func([]int)) {
	if n == 0 {
		try(ahead)
		return
	}
	for _, point := range some {
		eachList(some, n-1, append(slices.Clone(ahead), point), try)
	}
}

// wantedBytes: what the document asks of Encode.
func wantedBytes(bySigns map[string][]int, l []int) string {
	s, now := "", plain
	for _, point := range l {
		for _, signs := range []string{now, plain, roman, kanas} {
			b := slices.Index(bySigns[signs], point)
			if b < 0 {
				continue
			}
			if signs != now {
				s += signs
			}
			s, now = s+string([]byte{byte(b)}), signs
			break
		}
	}
	if now != plain {
		s += plain
	}
	return s
}

// E2: a code point that has no byte, wherever it stands.
func TestEncodeOfNone(t *testing.T) {
	for _, n := range []int{-1, 0x0E, 0x0F, 0x1B, 0x80, 0xA4, 0xA6, 0xFF, 0x203D, 0x203F, 0xFF40, 0xFF60, 0xFFA0, 0xFFBF, bad, 0xD800, api.Most, api.Most + 1,
		0x100 + 'a', 0x10000 + 'a', 1<<32 + 'a', 1<<32 + 0xFF61, most, -most - 1, -most - 1 + 0xFF40, -most - 1 + 0xFF61} {
		for _, l := range [][]int{{n}, {n, 'a'}, {'a', n}, {0xA5, n}, {0xFF61, n}, {0xFF61, n, 'a'}, {n, n}} {
			if got, e := kana.Encode(l); got != "" || e != api.ErrNone {
				t.Errorf("Encode %x: %q %d", l, got, e)
			}
		}
	}
}

// E1, E2, P1: MaxText bytes, or code points, and one more.
func TestLongest(t *testing.T) {
	if got := decode(t, strings.Repeat("a", api.MaxText)); !slices.Equal(got, slices.Repeat([]int{'a'}, api.MaxText)) {
		t.Errorf("Decode: %d code points", len(got))
	}
	if got := decode(t, strings.Repeat(kanas, api.MaxText/3)); !slices.Equal(got, bads(api.MaxText/3-1)) {
		t.Errorf("Decode of escapes: %d code points", len(got))
	}
	for _, s := range []string{"a", "\x80", "\x1b"} {
		for _, n := range []int{api.MaxText + 1, api.MaxText + 2, 1 << 20} {
			if got, e := kana.Decode(strings.Repeat(s, n)); len(got) != 0 || e != api.ErrMany {
				t.Errorf("Decode of %q, %d times: %d code points, %d", s, n, len(got), e)
			}
		}
	}
	half := api.MaxText / 2
	if got := encode(t, slices.Repeat([]int{0xFF61}, api.MaxText)); got != kanas+strings.Repeat("!", api.MaxText)+plain {
		t.Errorf("Encode: %d bytes", len(got))
	}
	if got := encode(t, slices.Repeat([]int{0xFF61, 0xA5}, half)); got != strings.Repeat(kanas+"!"+roman+"\\", half)+plain {
		t.Errorf("Encode with shifts: %d bytes", len(got))
	}
	for _, n := range []int{'a', 0xFF61, bad, -1} { // ErrMany is named ahead of ErrNone
		if got, e := kana.Encode(slices.Repeat([]int{n}, api.MaxText+1)); got != "" || e != api.ErrMany {
			t.Errorf("Encode of %x, too often: %q %d", n, got, e)
		}
	}
	if got, e := kana.Encode(append(make([]int, api.MaxText-1), bad)); got != "" || e != api.ErrNone {
		t.Errorf("Encode of a last one that has no byte: %q %d", got, e)
	}
}

// P2: a list may be nil or just empty.
func TestEmpty(t *testing.T) {
	for _, l := range [][]int{nil, {}} {
		if got := encode(t, l); got != "" {
			t.Errorf("Encode of nothing: %q", got)
		}
	}
	if got := decode(t, ""); len(got) != 0 {
		t.Errorf("Decode of nothing: %x", got)
	}
}

// P2: a list that is handed in is only read, the spare room behind it too.
func TestEncodeOnlyReads(t *testing.T) {
	for _, n := range []int{0xA5, -1} {
		room := []int{'a', n, 0xFF61, 7, 8, 9}
		before := slices.Clone(room)
		kana.Encode(room[:3])
		if !slices.Equal(room, before) {
			t.Errorf("Encode changed what it was handed: %x", room)
		}
	}
}

// P2, P3: answers share no memory, and signs are plain again at each beginning, whatever was told meanwhile.
func TestAnswersAreTheCallers(t *testing.T) {
	s := "a" + kanas + "!" + roman + "\\"
	want := []int{'a', 0xFF61, 0xA5}
	one, two := decode(t, s), decode(t, s)
	all := one[:cap(one)]
	for i := range all {
		all[i] = -1
	}
	if !slices.Equal(two, want) || !slices.Equal(decode(t, s), want) {
		t.Errorf("Decode: %x, then %x", two, decode(t, s))
	}
	l := []int{'a', 0xA5}
	was := encode(t, l)
	l[0] = 'b'
	if then := encode(t, l); was != "a"+roman+"\\"+plain || then != "b"+roman+"\\"+plain {
		t.Errorf("Encode: %q, then %q", was, then)
	}
	kana.Encode([]int{0xFF61, -1})
	decode(t, kanas)
	if got := encode(t, []int{'a'}); got != "a" || !slices.Equal(decode(t, "a"), []int{'a'}) {
		t.Errorf("Encode: %q; Decode: %x", got, decode(t, "a"))
	}
}
