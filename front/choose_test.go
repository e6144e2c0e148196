package front_test

import (
	"strings"
	"testing"
	"unsafe"

	"cartouche/api"
	"cartouche/front"
	"cartouche/label"
	"cartouche/scan"
)

const (
	most   = int(^uint(0) >> 1)
	latin1 = "<meta charset=latin1>"
	utf8   = "<meta charset=utf-8>"
	kana   = "<meta charset=iso-2022-jp>"
)

// all encodings that there are.
func all() []int {
	return []int{api.Utf8, api.Utf16l, api.Utf16b, api.Latin, api.User, api.Kana, api.Stop}
}

// noEncodings: numbers that are no encoding's; None is one that a front may have.
func noEncodings() []int {
	return []int{-1, 8, 9, 256 + api.Utf8, 1<<32 + api.Latin, most, -most - 1}
}

// marks that there are, and their encodings.
func marks() map[int]string {
	return map[int]string{api.Utf8: "\xef\xbb\xbf", api.Utf16b: "\xfe\xff", api.Utf16l: "\xff\xfe"}
}

// noMarks: parts of marks, and what looks like one.
func noMarks() []string {
	return []string{"\xef", "\xef\xbb", "\xfe", "\xff", "\xef\xbb\xbe", "\xef\xbf\xbb", "\xef\xbbx", "\xefx", "\xfe\xfe", "\xff\xff", "\xfex", "\xffx", "\xbb\xbf", "\x00\x00\xfe\xff", "x\xef\xbb\xbf", "\n\xfe\xff", " \xff\xfe"}
}

// noLabels: what finds nothing.
func noLabels() []string {
	return []string{"", " ", "no", "utf", "utf-8;", "\vutf-8", "utf-8\x00", "\xef\xbb\xbfutf-8", "charset=utf-8", utf8, strings.Repeat("a", api.MaxText)}
}

// isChosen: what Choose answers of a text.
func isChosen(t *testing.T, name, s string, encoding, why, size int) {
	t.Helper()
	if n, w, many, e := front.Choose(name, s); n != encoding || w != why || many != size || e != api.OK {
		t.Errorf("Choose %.40q %.60q: %d %d %d %d, not %d %d %d", name, s, n, w, many, e, encoding, why, size)
	}
}

// K1: each mark chooses, alone or not, whatever the label is, and whatever the text says of itself.
func TestByMark(t *testing.T) {
	for encoding, m := range marks() {
		for _, l := range append(api.Labels(), api.Label{}, api.Label{Name: "no"}, api.Label{Name: " UTF-8 "}) {
			for _, behind := range []string{"", "x", "\x00", "\xbf", "\xff", m, "\xef\xbb\xbf", "\xfe\xff", "\xff\xfe", latin1, utf8, kana} {
				isChosen(t, l.Name, m+behind, encoding, api.ByMark, len(m))
			}
		}
	}
}

// K1: a label chooses, however it is written, where no mark stands at the beginning, whatever the text says of itself.
func TestByLabel(t *testing.T) {
	texts := append(noMarks(), "", "x", latin1, utf8, kana, "x\xef\xbb\xbf"+kana, strings.Repeat(latin1, 100))
	for _, l := range api.Labels() {
		for _, name := range []string{l.Name, strings.ToUpper(l.Name), "\t\n\f\r " + l.Name + " \r\f\n\t"} {
			for _, s := range texts {
				isChosen(t, name, s, l.Encoding, api.ByLabel, 0)
			}
		}
	}
}

// K1: what a text says of itself chooses, where there is no mark, and no label that finds something.
func TestByMeta(t *testing.T) {
	instead := map[int]int{api.Utf16l: api.Utf8, api.Utf16b: api.Utf8, api.User: api.Latin}
	for _, l := range api.Labels() {
		want := l.Encoding
		if n, ok := instead[want]; ok {
			want = n
		}
		for _, name := range noLabels() {
			for _, ahead := range append(noMarks(), "", "<!-- x -->", "<p>") {
				isChosen(t, name, ahead+"<meta charset="+l.Name+">"+utf8, want, api.ByMeta, 0)
			}
		}
	}
	for _, name := range noLabels() {
		isChosen(t, name, strings.Repeat("x", api.MaxScan-len(utf8))+utf8, api.Utf8, api.ByMeta, 0)
	}
}

// K1: what has nothing of these is Latin.
func TestByFallback(t *testing.T) {
	for _, name := range noLabels() {
		for _, s := range append(noMarks(), "", "x", "a\xe2\x82\xac", "<meta>", "<meta charset=no>", "<!-- "+utf8, "charset=utf-8", strings.Repeat("x", api.MaxScan)+utf8, strings.Repeat("x", api.MaxText)) {
			isChosen(t, name, s, api.Latin, api.ByFallback, 0)
		}
	}
}

// chosen: Choose by the document's words, by the chapters ahead.
func chosen(name, s string) (encoding, why, size int) {
	for n, m := range marks() {
		if strings.HasPrefix(s, m) {
			return n, api.ByMark, len(m)
		}
	}
	if n, _ := label.Find(name); n != api.None {
		return n, api.ByLabel, 0
	}
	if n, _ := scan.Scan(s); n != api.None {
		return n, api.ByMeta, 0
	}
	return api.Latin, api.ByFallback, 0
}

// eachText of up to so many of some parts.
func eachText(some []string, n int, try func(string)) {
	try("")
	for i := 0; i < len(some) && n > 0; i++ {
		eachText(some, n-1, func(s string) { try(some[i] + s) })
	}
}

// K1: all texts of a few parts, with labels of all kinds.
func TestChooseByTheWords(t *testing.T) {
	eachText([]string{"\xef", "\xbb", "\xbf", "\xfe", "\xff", "a", latin1, kana}, 4, func(s string) {
		for _, name := range []string{"", "no", "utf-8", " X-User-Defined", "hz-gb-2312"} {
			encoding, why, size := chosen(name, s)
			isChosen(t, name, s, encoding, why, size)
		}
	})
}

// K1, P1: MaxText bytes of a label, and of a text, are not too many; one more is, whoever would choose.
func TestChooseOfTheLongest(t *testing.T) {
	full := strings.Repeat(" ", api.MaxText-5) + "utf-8"
	isChosen(t, full, full, api.Utf8, api.ByLabel, 0)
	isChosen(t, "", full, api.Latin, api.ByFallback, 0)
	isChosen(t, strings.Repeat("x", api.MaxText), kana+full[len(kana):], api.Kana, api.ByMeta, 0)
	for n, m := range marks() {
		isChosen(t, full, m+full[len(m):], n, api.ByMark, len(m))
	}
	long := []string{full + " ", " " + full, "\xef\xbb\xbf" + full, "\xff\xfe" + full, latin1 + full, strings.Repeat("a", 1<<20)}
	fine := []string{"", "x", "utf-8", "\xef\xbb\xbf", "\xfe\xff", "\xff\xfex", latin1, full}
	try := func(name, s string) {
		if n, why, size, e := front.Choose(name, s); n != api.None || why != 0 || size != 0 || e != api.ErrMany {
			t.Errorf("Choose with %d bytes of %d: %d %d %d %d", len(name), len(s), n, why, size, e)
		}
	}
	for _, l := range long {
		for _, f := range fine {
			try(l, f)
			try(f, l)
		}
		try(l, l)
	}
}

// P2, P3: bytes that change later are not kept, and a call answers the same again, whatever was asked meanwhile.
func TestChooseAgain(t *testing.T) {
	b := []byte("<meta charset=latin1>")
	s := unsafe.String(&b[0], len(b))
	for range 3 {
		isChosen(t, "", s, api.Latin, api.ByMeta, 0)
		copy(b[14:], "utf-8 ")
		isChosen(t, "", s, api.Utf8, api.ByMeta, 0)
		copy(b, "\xef\xbb\xbf")
		isChosen(t, "", s, api.Utf8, api.ByMark, 3)
		isChosen(t, s[14:20], "", api.Utf8, api.ByLabel, 0)
		front.Choose(strings.Repeat("x", api.MaxText+1), s)
		isChosen(t, "", "", api.Latin, api.ByFallback, 0)
		copy(b, "<meta charset=latin1>")
	}
}
