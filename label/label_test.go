package label_test

import (
	"strings"
	"testing"
	"unsafe"

	"cartouche/api"
	"cartouche/label"
)

const white = "\t\n\f\r "

func trim(t *testing.T, s string) string {
	t.Helper()
	got, e := label.Trim(s)
	if e != api.OK {
		t.Errorf("Trim %q: error %d", s, e)
	}
	return got
}

func fold(t *testing.T, s string) string {
	t.Helper()
	got, e := label.Fold(s)
	if e != api.OK {
		t.Errorf("Fold %q: error %d", s, e)
	}
	return got
}

func find(t *testing.T, s string) int {
	t.Helper()
	got, e := label.Find(s)
	if e != api.OK {
		t.Errorf("Find %q: error %d", s, e)
	}
	return got
}

// A1: just five bytes are white, and only at the ends.
func TestTrimOfEachByte(t *testing.T) {
	for c := range 256 {
		b := string([]byte{byte(c)})
		for _, s := range []string{b + "x", "x" + b, b + "x" + b, b + b + "x" + b + b} {
			want := s
			if strings.Contains(white, b) {
				want = "x"
			}
			if got := trim(t, s); got != want {
				t.Errorf("Trim %q: %q", s, got)
			}
		}
		if s := "x" + b + "y"; trim(t, s) != s {
			t.Errorf("Trim %q: %q", s, trim(t, s))
		}
	}
}

func TestTrimOfTexts(t *testing.T) {
	for _, c := range []struct{ s, want string }{
		{"", ""}, {" ", ""}, {white, ""}, {"a", "a"},
		{white + "a" + white + "b" + white, "a" + white + "b"},
		{" \v ", "\v"}, {" \x00 ", "\x00"},
		{" \xc2\xa0a\xe2\x80\x83 ", "\xc2\xa0a\xe2\x80\x83"},
		{" \x80\xff ", "\x80\xff"},
		{" AbC ", "AbC"},
	} {
		if got := trim(t, c.s); got != c.want {
			t.Errorf("Trim %q: %q", c.s, got)
		}
	}
}

// A1: letters become small, all other bytes stay, those that are no UTF-8 too.
func TestFoldOfEachByte(t *testing.T) {
	for c := range 256 {
		s, want := string([]byte{byte(c)}), string([]byte{byte(c)})
		if c >= 'A' && c <= 'Z' {
			want = string([]byte{byte(c + 32)})
		}
		if got := fold(t, s); got != want {
			t.Errorf("Fold %q: %q", s, got)
		}
		if got := fold(t, "M"+s+"m"); got != "m"+want+"m" {
			t.Errorf("Fold %q between letters: %q", s, got)
		}
	}
}

func TestFoldOfTexts(t *testing.T) {
	for _, c := range []struct{ s, want string }{
		{"", ""}, {" UTF-8 ", " utf-8 "}, {"@AZ[`az{", "@az[`az{"},
		{"\u00c4\u0130\u212a\u017f", "\u00c4\u0130\u212a\u017f"}, {"\xc3A\x80Z\xff", "\xc3a\x80z\xff"},
	} {
		if got := fold(t, c.s); got != c.want {
			t.Errorf("Fold %q: %q", c.s, got)
		}
	}
}

// A1, A2: each label finds its encoding, whatever the letters and the white bytes at its ends.
func TestFindHoweverItIsWritten(t *testing.T) {
	for _, l := range api.Labels() {
		for _, s := range []string{
			l.Name, strings.ToUpper(l.Name), mixed(l.Name, 0), mixed(l.Name, 1),
			white + l.Name, l.Name + white, "\f\f" + mixed(l.Name, 0) + "\r\n",
		} {
			if got := find(t, s); got != l.Encoding {
				t.Errorf("Find %q: %d, not %d", s, got, l.Encoding)
			}
		}
	}
}

// mixed: each second letter is great.
func mixed(s string, odd int) string {
	b := []byte(s)
	for i := range b {
		if i%2 == odd {
			b[i] = strings.ToUpper(s)[i]
		}
	}
	return string(b)
}

// A1: what is almost a label is None.
func TestFindOfNoLabel(t *testing.T) {
	for _, s := range []string{
		"", " ", white, "none", "utf", "utf-", "utf-8-", "utf 8", "utf_8", "utf-88", "utf-7", "utf-32",
		"\vutf-8", "utf-8\v", "utf-8\x00", "\x00utf-8", "\xa0utf-8", "\xc2\xa0utf-8", "\xef\xbb\xbfutf-8",
		"utf-8 utf-8", "utf-8;", "\"utf-8\"", "latin 1", "latin2", "l", "iso8859-1", "windows-1253",
		"iso-2022-\u212ar", "u\u017f-ascii", "\xc4utf-8", "1", "0",
	} {
		if got := find(t, s); got != api.None {
			t.Errorf("Find %q: %d", s, got)
		}
	}
	for _, l := range api.Labels() {
		for _, s := range []string{l.Name[1:] + "\x00", l.Name + "x", "x" + l.Name, l.Name[:1] + " " + l.Name[1:]} {
			if got := find(t, s); got != api.None {
				t.Errorf("Find %q: %d", s, got)
			}
		}
	}
}

// A1, A2: the name that is told of an encoding, which finds it.
func TestName(t *testing.T) {
	want := map[int]string{
		api.Utf8: "utf-8", api.Utf16l: "utf-16le", api.Utf16b: "utf-16be", api.Latin: "windows-1252",
		api.User: "x-user-defined", api.Kana: "iso-2022-jp", api.Stop: "replacement",
	}
	for encoding, name := range want {
		got, e := label.Name(encoding)
		if got != name || e != api.OK {
			t.Errorf("Name %d: %q %d", encoding, got, e)
		}
		if n := find(t, " "+strings.ToUpper(got)+" "); n != encoding {
			t.Errorf("Find of the name %q: %d", got, n)
		}
	}
}

// A1, P1: of no encoding there is no name.
func TestNameOfNoEncoding(t *testing.T) {
	const most = int(^uint(0) >> 1)
	for _, encoding := range []int{api.None, -1, api.Stop + 1, 255, 256, 257, 1 << 16, most, -most - 1} {
		if got, e := label.Name(encoding); got != "" || e != api.ErrKind {
			t.Errorf("Name %d: %q %d", encoding, got, e)
		}
	}
}

// A1, P1: a text of MaxText bytes is not too long, however short what is left of it would be.
func TestLongest(t *testing.T) {
	s := strings.Repeat(" ", api.MaxText-5) + "UTF-8"
	if got := trim(t, s); got != "UTF-8" {
		t.Errorf("Trim: %q", got)
	}
	if got := fold(t, s); got != strings.Repeat(" ", api.MaxText-5)+"utf-8" {
		t.Errorf("Fold: %q", got)
	}
	if got := find(t, s); got != api.Utf8 {
		t.Errorf("Find: %d", got)
	}
	for _, s := range []string{" " + s, s + " ", strings.Repeat(" ", api.MaxText+1), strings.Repeat("A", 1<<20)} {
		if got, e := label.Trim(s); got != "" || e != api.ErrMany {
			t.Errorf("Trim of %d bytes: %q %d", len(s), got, e)
		}
		if got, e := label.Fold(s); got != "" || e != api.ErrMany {
			t.Errorf("Fold of %d bytes: %q %d", len(s), got, e)
		}
		if got, e := label.Find(s); got != api.None || e != api.ErrMany {
			t.Errorf("Find of %d bytes: %d %d", len(s), got, e)
		}
	}
}

// P2: what is answered lies elsewhere than what was handed in, though nothing of it is changed.
func TestAnswersAreNewMemory(t *testing.T) {
	for _, s := range []string{"utf-8", " utf-8", "utf-8 ", " utf-8 ", " UTF-8 "} {
		s = strings.Clone(s)
		if shared(s, trim(t, s)) {
			t.Errorf("Trim %q shares memory", s)
		}
		if shared(s, fold(t, s)) {
			t.Errorf("Fold %q shares memory", s)
		}
	}
}

func shared(s, part string) bool {
	begin, at := uintptr(unsafe.Pointer(unsafe.StringData(s))), uintptr(unsafe.Pointer(unsafe.StringData(part)))
	return at >= begin && at < begin+uintptr(len(s))
}

// P2, P3: a call answers the same again, whatever was done with the tables meanwhile.
func TestAnswersAreTheSameAgain(t *testing.T) {
	for range 3 {
		for _, l := range api.Labels() {
			if got := find(t, l.Name); got != l.Encoding {
				t.Errorf("Find %q: %d", l.Name, got)
			}
		}
		if got, e := label.Name(api.Utf16l); got != "utf-16le" || e != api.OK {
			t.Errorf("Name: %q %d", got, e)
		}
		given := api.Labels()
		for i := range given {
			given[i] = api.Label{Name: "x", Encoding: -1}
		}
		label.Find("x")
		label.Name(-1)
		label.Trim(strings.Repeat(" ", api.MaxText+1))
	}
}
