package single_test

import (
	"slices"
	"strings"
	"testing"

	"cartouche/api"
	"cartouche/single"
)

const most = int(^uint(0) >> 1)

func decode(t *testing.T, user bool, s string) []int {
	t.Helper()
	got, e := single.Decode(user, s)
	if e != api.OK {
		t.Errorf("Decode %v %q: error %d", user, s, e)
	}
	return got
}

func encode(t *testing.T, user bool, l []int) string {
	t.Helper()
	got, e := single.Encode(user, l)
	if e != api.OK {
		t.Errorf("Encode %v %x: error %d", user, l, e)
	}
	return got
}

// both encodings.
func both(try func(user bool)) {
	try(false)
	try(true)
}

// wanted: what the document asks of a byte. The signs of windows-1252 are written out: they are not asked of the program's tables.
func wanted(user bool, b int) int {
	signs := []rune("€\u0081‚ƒ„…†‡ˆ‰Š‹Œ\u008dŽ\u008f\u0090‘’“”•–—˜™š›œ\u009džŸ")
	if b < 128 {
		return b
	}
	if user {
		return 0xF700 + b
	}
	if b < 160 {
		return int(signs[b-128])
	}
	return b
}

// allBytes in their order.
func allBytes() string {
	var b []byte
	for c := range 256 {
		b = append(b, byte(c))
	}
	return string(b)
}

// D1: each byte, by itself and among others.
func TestEachByte(t *testing.T) {
	both(func(user bool) {
		for b := range 256 {
			s, point := string([]byte{byte(b)}), wanted(user, b)
			if got := decode(t, user, s); !slices.Equal(got, []int{point}) {
				t.Errorf("Decode %v %q: %x, not %x", user, s, got, point)
			}
			if got, e := single.Tells(user, point); got != b || e != api.OK {
				t.Errorf("Tells %v %x: %d %d, not %d", user, point, got, e, b)
			}
			if got := encode(t, user, []int{point}); got != s {
				t.Errorf("Encode %v %x: %q", user, point, got)
			}
			row := []int{'x', point, point, 0}
			if got := decode(t, user, "x"+s+s+"\x00"); !slices.Equal(got, row) {
				t.Errorf("Decode %v %q among others: %x", user, s, got)
			}
			if got := encode(t, user, row); got != "x"+s+s+"\x00" {
				t.Errorf("Encode %v %x among others: %q", user, point, got)
			}
		}
	})
}

// D1: the bytes at the edges of what is told apart, with their code points written out.
func TestEdgesOfBytes(t *testing.T) {
	const s = "\x00\x7f\x80\x81\x9e\x9f\xa0\xff"
	if got := decode(t, false, s); !slices.Equal(got, []int{0, 0x7F, 0x20AC, 0x81, 0x17E, 0x178, 0xA0, 0xFF}) {
		t.Errorf("Decode of windows-1252: %x", got)
	}
	if got := decode(t, true, s); !slices.Equal(got, []int{0, 0x7F, 0xF780, 0xF781, 0xF79E, 0xF79F, 0xF7A0, 0xF7FF}) {
		t.Errorf("Decode of x-user-defined: %x", got)
	}
	if got := decode(t, false, "\xe2\x82\xac"); !slices.Equal(got, []int{0xE2, 0x201A, 0xAC}) { // the document's example
		t.Errorf("Decode of windows-1252: %x", got)
	}
}

// D1: of all code points, and of what is none, just those of the bytes are told by one.
func TestTellsNoOthers(t *testing.T) {
	both(func(user bool) {
		known := map[int]bool{}
		for b := range 256 {
			known[wanted(user, b)] = true
		}
		points := []int{-most - 1, -0x20AC, -256, -128, -1, api.Most, api.Most + 1, 0x120AC, 1<<32 + 'a', 1<<32 + 0xF780, most}
		for n := range 0x10000 {
			points = append(points, n)
		}
		for _, n := range points {
			if known[n] {
				continue
			}
			if got, e := single.Tells(user, n); got != 0 || e != api.ErrNone {
				t.Errorf("Tells %v %x: %d %d", user, n, got, e)
			}
		}
	})
}

// D1: one code point that has no byte, wherever it stands.
func TestEncodeOfWhatHasNoByte(t *testing.T) {
	for _, c := range []struct {
		user  bool
		wrong []int
	}{
		{false, []int{-1, 0x80, 0x82, 0x9F, 0x100, 0x20AD, api.Bad, 0xF780, 0xF7FF, 0xD800, api.Most, api.Most + 1, most, -most - 1, 512 + 'a'}},
		{true, []int{-1, 0x80, 0x81, 0xA0, 0xFF, 0x100, 0x20AC, api.Bad, 0xF700, 0xF77F, 0xF800, 0xD800, api.Most, api.Most + 1, most, -most - 1}},
	} {
		for _, n := range c.wrong {
			for _, l := range [][]int{{n}, {n, 'a'}, {'a', n}, {'a', n, 'b'}, {n, n}} {
				if got, e := single.Encode(c.user, l); got != "" || e != api.ErrNone {
					t.Errorf("Encode %v %x: %q %d", c.user, l, got, e)
				}
			}
			if got, e := single.Tells(c.user, n); got != 0 || e != api.ErrNone {
				t.Errorf("Tells %v %x: %d %d", c.user, n, got, e)
			}
		}
	}
}

// D2: what is decoded is encoded as it was: all pairs of bytes, and all bytes in a row, either way round.
func TestDecodedIsEncodedAsItWas(t *testing.T) {
	both(func(user bool) {
		for one := range 256 {
			for from := 0; from < 256; from += 128 {
				var b []byte
				for two := from; two < from+128; two++ {
					b = append(b, byte(one), byte(two))
				}
				if got := encode(t, user, decode(t, user, string(b))); got != string(b) {
					t.Errorf("%v: %q was %q", user, got, b)
				}
			}
		}
		back := []byte(allBytes())
		slices.Reverse(back)
		for _, s := range []string{"", allBytes(), string(back), strings.Repeat(allBytes(), 11)} {
			if got := encode(t, user, decode(t, user, s)); got != s {
				t.Errorf("%v: %q was %q", user, got, s)
			}
		}
	})
}

// D1, P1: MaxText bytes, or code points, and one more.
func TestLongest(t *testing.T) {
	both(func(user bool) {
		for b := range 256 {
			s, l := strings.Repeat(string([]byte{byte(b)}), api.MaxText), slices.Repeat([]int{wanted(user, b)}, api.MaxText)
			if got := decode(t, user, s); !slices.Equal(got, l) {
				t.Errorf("Decode %v of byte %d, often: %d code points", user, b, len(got))
			}
			if got := encode(t, user, l); got != s {
				t.Errorf("Encode %v of byte %d, often: %d bytes", user, b, len(got))
			}
		}
		for _, n := range []int{api.MaxText + 1, 1 << 20} {
			if got, e := single.Decode(user, strings.Repeat("a", n)); len(got) != 0 || e != api.ErrMany {
				t.Errorf("Decode %v of %d bytes: %d code points, %d", user, n, len(got), e)
			}
		}
		for _, n := range []int{0, 'a', -1, api.Most} { // ErrMany is named ahead of ErrNone
			if got, e := single.Encode(user, slices.Repeat([]int{n}, api.MaxText+1)); got != "" || e != api.ErrMany {
				t.Errorf("Encode %v of %x, too often: %q %d", user, n, got, e)
			}
		}
		if got, e := single.Encode(user, append(make([]int, api.MaxText-1), -1)); got != "" || e != api.ErrNone {
			t.Errorf("Encode %v of a last one that has no byte: %q %d", user, got, e)
		}
	})
}

// P2: a list may be nil or just empty.
func TestEmpty(t *testing.T) {
	both(func(user bool) {
		for _, l := range [][]int{nil, {}} {
			if got := encode(t, user, l); got != "" {
				t.Errorf("Encode of nothing: %q", got)
			}
		}
		if got := decode(t, user, ""); len(got) != 0 {
			t.Errorf("Decode of nothing: %x", got)
		}
	})
}

// P2: a list that is handed in is only read, the spare room behind it too.
func TestEncodeOnlyReads(t *testing.T) {
	for _, n := range []int{'b', -1} {
		room := []int{'a', n, 'c', 7, 8, 9}
		before := slices.Clone(room)
		both(func(user bool) { single.Encode(user, room[:3]) })
		if !slices.Equal(room, before) {
			t.Errorf("Encode changed what it was handed: %x", room)
		}
	}
}

// P2, P3: answers share no memory, and a call answers the same again, whichever encoding was asked for meanwhile.
func TestAnswersAreTheCallers(t *testing.T) {
	want := []int{'a', 0x20AC, 0xFF}
	one, two := decode(t, false, "a\x80\xff"), decode(t, false, "a\x80\xff")
	all := one[:cap(one)]
	for i := range all {
		all[i] = -1
	}
	high := api.High()
	for i := range high {
		high[i] = -1
	}
	decode(t, true, "a\x80\xff")
	encode(t, true, []int{0xF780})
	if !slices.Equal(two, want) || !slices.Equal(decode(t, false, "a\x80\xff"), want) {
		t.Errorf("Decode: %x, then %x", two, decode(t, false, "a\x80\xff"))
	}
	l := []int{'a', 0x20AC}
	was := encode(t, false, l)
	l[0] = 'b'
	if was != "a\x80" || encode(t, false, l) != "b\x80" {
		t.Errorf("Encode: %q, then %q", was, encode(t, false, l))
	}
	for range 2 {
		if got, e := single.Tells(false, 0x20AC); got != 128 || e != api.OK {
			t.Errorf("Tells: %d %d", got, e)
		}
		if got, e := single.Tells(true, 0x20AC); got != 0 || e != api.ErrNone {
			t.Errorf("Tells of x-user-defined: %d %d", got, e)
		}
	}
}
