package text_test

import (
	"slices"
	"strings"
	"testing"

	"cartouche/api"
	"cartouche/attr"
	"cartouche/encoder"
	"cartouche/front"
	"cartouche/kana"
	"cartouche/label"
	"cartouche/mark"
	"cartouche/scan"
	"cartouche/single"
	"cartouche/stream"
	"cartouche/text"
	"cartouche/utf16"
	"cartouche/utf8"
)

// Each test here is of one sentence of 'What the whole promises'.

// scalars: lists of some, with those at the edges of what bytes tell.
func scalars() [][]int {
	l := [][]int{nil, {0}, {bad}, {api.Most}, {0xFEFF, 'a'}, {0xFFFE, 0xFEFF}, points("plain \\~ &#65;"), {0x7F, 0x80, 0x7FF, 0x800, 0xD7FF, 0xE000, 0xFFFF, 0x10000, api.Most}}
	return append(l, slices.Repeat([]int{'a', 0x20AC}, api.MaxText/2), slices.Repeat([]int{api.Most}, api.MaxText/4), kanas(), signs(false), signs(true))
}

// kanas: all code points of shifted signs, and some of them in turn.
func kanas() []int {
	l := []int{0xA5, '\\', 0x203E, '~', 'a', 0xFF61, 0xA5, 0xFF61, '\\'}
	for point := 0xFF61; point <= 0xFF9F; point++ {
		l = append(l, point, point-0xFF61+0x20)
	}
	return l
}

// signs: those of a byte each.
func signs(user bool) []int {
	l, _ := single.Decode(user, eachByte())
	return l
}

// eachByte that there is.
func eachByte() string {
	var b []byte
	for c := range 256 {
		b = append(b, byte(c))
	}
	return string(b)
}

func TestANameFindsIt(t *testing.T) {
	for _, n := range all() {
		name, e := label.Name(n)
		for bits := range 1 << len(name) {
			b := []byte(name)
			for i := range b {
				if bits>>i&1 == 1 {
					b[i] = strings.ToUpper(name)[i]
				}
			}
			for _, s := range []string{string(b), "\t\n\f\r " + string(b) + " "} {
				if got, f := label.Find(s); got != n || e != api.OK || f != api.OK {
					t.Fatalf("Find %q: %d %d %d", s, got, e, f)
				}
			}
		}
	}
}

func TestEncodedIsDecodedAsItWas(t *testing.T) {
	for _, l := range scalars() {
		s, e := utf8.Encode(l)
		if got, f := utf8.Decode(s); len(s) <= api.MaxText && !slices.Equal(got, l) || e != api.OK || f != api.OK && len(s) <= api.MaxText {
			t.Errorf("UTF-8 of %.99x: %.99x %d %d", l, got, e, f)
		}
		for _, big := range []bool{false, true} {
			s, e := utf16.Encode(big, l)
			if got, f := utf16.Decode(big, s); len(s) <= api.MaxText && !slices.Equal(got, l) || e != api.OK || f != api.OK && len(s) <= api.MaxText {
				t.Errorf("UTF-16 of %.99x: %.99x %d %d", l, got, e, f)
			}
		}
		s, e = kana.Encode(l)
		if got, f := kana.Decode(s); e == api.OK && (!slices.Equal(got, l) || f != api.OK) {
			t.Errorf("iso-2022-jp of %.99x: %.99x %d", l, got, f)
		}
	}
	if _, e := kana.Encode(kanas()); e != api.OK {
		t.Errorf("iso-2022-jp of all kana: %d", e)
	}
}

func TestDecodedIsEncodedAsItWas(t *testing.T) {
	for _, user := range []bool{false, true} {
		for _, s := range []string{"", eachByte(), strings.Repeat(eachByte(), 11), strings.Repeat("\xff", api.MaxText)} {
			l, e := single.Decode(user, s)
			if got, f := single.Encode(user, l); got != s || e != api.OK || f != api.OK {
				t.Errorf("%.20q: %.20q %d %d", s, got, e, f)
			}
		}
	}
}

// texts of all kinds, with labels.
func texts(try func(name, s string)) {
	for _, name := range []string{"", "no", "utf-8", "utf-16", "utf-16be", "latin1", "x-user-defined", "iso-2022-jp", "replacement"} {
		for _, ahead := range []string{"", bom, "\xfe\xff", "\xff\xfe", "\xef\xbb", "\xff", "<meta charset=utf-8>", "<meta charset=iso-2022-jp>", "<!--", bom + "<meta charset=latin1>", strings.Repeat("x", api.MaxScan-2)} {
			for _, behind := range []string{"", "a", "\xe2\x82\xac\xe2", "\xd8\x00\xdc\x00\xd8", "x\x1b(I!\x1b(J\x1b(B\x1b(", bom, eachByte()} {
				try(name, ahead+behind)
			}
		}
	}
}

func TestInWhateverPieces(t *testing.T) {
	texts(func(name, s string) {
		want, encoding, _, _ := text.Decode(name, s)
		whole, _ := stream.Decode(encoding, s)
		for by := 1; by < len(s)+2; by = by*3 + 1 {
			f, _ := front.Begin(name)
			x, _ := stream.Open(encoding)
			var told, byState []int
			for at := 0; at < len(s); at += by {
				piece := s[at:min(len(s), at+by)]
				l, g, _ := front.Feed(f, piece, at+by >= len(s))
				m, y, _ := stream.Feed(x, piece, at+by >= len(s))
				told, f, byState, x = append(told, l...), g, append(byState, m...), y
			}
			if !slices.Equal(told, want) || !slices.Equal(byState, whole) {
				t.Errorf("%.30q in pieces of %d, label %q: %.99x and %.99x, not %.99x and %.99x", s, by, name, told, byState, want, whole)
			}
		}
	})
}

func TestWrittenStrictly(t *testing.T) {
	for _, n := range all() {
		written := 0
		for _, l := range scalars() {
			s, e := encoder.Encode(n, api.ModeStrict, l)
			if e != api.OK || len(s) > api.MaxText {
				continue
			}
			written++
			output, _ := encoder.Output(n)
			if got, f := stream.Decode(output, s); !slices.Equal(got, l) || f != api.OK {
				t.Errorf("%.99x in %d is read as %.99x %d", l, n, got, f)
			}
		}
		if written < 3 {
			t.Errorf("%d lists are written in %d", written, n)
		}
	}
}

func TestWhatIsToldCanBeWritten(t *testing.T) {
	for _, n := range all() {
		for _, l := range scalars() {
			s, e := encoder.Encode(n, api.ModeTold, l)
			if e != api.OK {
				t.Errorf("%.99x in %d: %d", l, n, e)
			}
			if len(s) > api.MaxText {
				continue
			}
			output, _ := encoder.Output(n)
			read, _ := stream.Decode(output, s)
			if got, e := encoder.Encode(n, api.ModeStrict, read); got != s || e != api.OK {
				t.Errorf("%.99x in %d: %.99q, and strictly %.99q %d", l, n, s, got, e)
			}
		}
	}
}

func TestAMarkIsFound(t *testing.T) {
	for n, size := range map[int]int{api.Utf8: 3, api.Utf16l: 2, api.Utf16b: 2} {
		texts(func(name, s string) {
			marked, e := mark.Put(n, s)
			if got, many := mark.Sniff(marked); got != n || many != size || marked[many:] != s || e != api.OK {
				t.Errorf("%.30q with the mark of %d: %d %d %d", s, n, got, many, e)
			}
			if got, why, many, e := front.Choose(name, marked); got != n || why != api.ByMark || many != size || e != api.OK {
				t.Errorf("Choose %.30q with the mark of %d: %d %d %d %d", s, n, got, why, many, e)
			}
		})
	}
}

func TestAnAttributeIsReadAsItWas(t *testing.T) {
	for _, a := range []api.Attr{{Name: "a"}, {Name: "charset", Value: "utf-8"}, {Name: "x-y", Value: " b > c / d = 'e' "}, {Name: "\xff", Value: "\xe2\x82\xac\x00"}} {
		got, to, ok, e := attr.Next(a.Name+`="`+a.Value+`" b`, 0)
		if got != a || to != len(a.Name)+len(a.Value)+3 || !ok || e != api.OK {
			t.Errorf("%q: %q %d %v %d", a, got, to, ok, e)
		}
	}
}

func TestBehindMaxScanIsNotSeen(t *testing.T) {
	for _, ahead := range []string{"x", "<", "<p ", "<!--", "<meta charset=", "<meta charset=latin1><p "} {
		begin := (ahead + strings.Repeat(" ", api.MaxScan))[:api.MaxScan]
		n, _ := scan.Scan(begin)
		want, why, _, _ := front.Choose("", begin)
		for _, behind := range []string{"<meta charset=utf-8>", "utf-8><meta charset=utf-8>", "--><meta charset=utf-8>"} {
			if got, e := scan.Scan(begin + behind); got != n || e != api.OK {
				t.Errorf("Scan %q: %d %d, not %d", ahead+".."+behind, got, e, n)
			}
			isDecoded(t, "", begin+behind, want, why, points(begin+behind)...)
		}
	}
}

// L2: what is recoded is chosen by its mark, whatever the label is.
func TestRecodedToUtf8(t *testing.T) {
	texts(func(name, s string) {
		l, _, _, _ := text.Decode(name, s)
		written := recode(t, name, s, api.Utf8)
		for _, other := range []string{"", "no", "latin1", "utf-16", name} {
			isDecoded(t, other, written, api.Utf8, api.ByMark, l...)
			for _, n := range all() {
				if isUtf8(n) {
					isRecoded(t, other, written, n, written)
				}
			}
		}
	})
	// Of just MaxText bytes, and of one more, which can't be read again.
	just := strings.Repeat("\x80", (api.MaxText-len(bom))/3)
	written := recode(t, "", just, api.Utf8)
	isDecoded(t, "", written, api.Utf8, api.ByMark, slices.Repeat([]int{0x20AC}, len(just))...)
	isRecoded(t, "", written, api.Utf8, written)
	if l, n, why, e := text.Decode("", recode(t, "", just+"x", api.Utf8)); len(written) != api.MaxText || len(l) != 0 || n != 0 || why != 0 || e != api.ErrMany {
		t.Errorf("Decode behind Recode of %d bytes: %d code points, %d %d %d", len(written)+1, len(l), n, why, e)
	}
}
