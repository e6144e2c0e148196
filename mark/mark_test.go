package mark_test

import (
	"strings"
	"testing"
	"unsafe"

	"cartouche/api"
	"cartouche/mark"
)

// marks that there are, and their encodings.
func marks() map[int]string {
	return map[int]string{api.Utf8: "\xef\xbb\xbf", api.Utf16b: "\xfe\xff", api.Utf16l: "\xff\xfe"}
}

// noEncodings: numbers that are no encoding's.
func noEncodings() []int {
	const most = int(^uint(0) >> 1)
	return []int{api.None, -1, 8, 9, 256 + api.Utf8, 1<<32 + api.Utf16l, most, -most - 1}
}

func put(t *testing.T, encoding int, s string) string {
	t.Helper()
	got, e := mark.Put(encoding, s)
	if e != api.OK {
		t.Errorf("Put %d %.20q: error %d", encoding, s, e)
	}
	return got
}

// isSniffed: an encoding's mark is found, and no other may come.
func isSniffed(t *testing.T, s string, encoding int) {
	t.Helper()
	size := len(marks()[encoding])
	if got, n := mark.Sniff(s); got != encoding || n != size {
		t.Errorf("Sniff %.20q: %d %d, not %d %d", s, got, n, encoding, size)
	}
	if mark.May(s) {
		t.Errorf("May %.20q, which has a mark", s)
	}
}

// isUnmarked: a text has no mark, and may get one or not.
func isUnmarked(t *testing.T, s string, may bool) {
	t.Helper()
	if got, n := mark.Sniff(s); got != api.None || n != 0 {
		t.Errorf("Sniff %.20q: %d %d", s, got, n)
	}
	if got := mark.May(s); got != may {
		t.Errorf("May %.20q: %v", s, got)
	}
}

// H1: each mark, alone and with bytes behind it.
func TestSniff(t *testing.T) {
	for encoding, m := range marks() {
		for _, behind := range []string{"", "x", "\x00", "\x00\x00", "\xbf", "\xff", m, "\xef\xbb\xbf", "\xfe\xff", "\xff\xfe", strings.Repeat("a", api.MaxText+1)} {
			isSniffed(t, m+behind, encoding)
		}
	}
}

// H1: half of each mark may become it; with another byte behind it, it can't any more.
func TestMay(t *testing.T) {
	isUnmarked(t, "", true)
	for _, m := range marks() {
		for n := 1; n < len(m); n++ {
			isUnmarked(t, m[:n], true)
			for c := range 256 {
				if byte(c) != m[n] {
					isUnmarked(t, m[:n]+string([]byte{byte(c)}), false)
					isUnmarked(t, m[:n]+string([]byte{byte(c)})+m, false)
				}
			}
		}
	}
}

// H1: what looks like a mark, but stands further on, or is another row of bytes.
func TestNoMark(t *testing.T) {
	for _, m := range marks() {
		for _, ahead := range []string{"a", " ", "\x00", "\n", "\xe2\x82\xac"} {
			isUnmarked(t, ahead+m, false)
			isUnmarked(t, ahead+m[:1], false)
		}
	}
	for _, s := range []string{
		"a", "\xbb\xbf", "\xbb", "\xbf", "\xbf\xbb\xef", "\xef\xbf\xbb", "\xef\xef\xbb\xbf", "\xef\xbb\xbb\xbf", "\xef\xbb\xbe", "\xef\xbb\xc0",
		"\xfe\xfe", "\xff\xff", "\xfe\xfe\xff", "\xff\xff\xfe", "\x00\x00\xfe\xff", "\xef\xbf\xbd", "\xc3\xbe\xc3\xbf", "+/v8", "\xfd", "\xee",
		"\\xef\\xbb\\xbf", "\u00ef\u00bb\u00bf", strings.Repeat("\xef", api.MaxText+1), strings.Repeat("a", 1<<20),
	} {
		isUnmarked(t, s, false)
	}
}

// H1: each text of up to three bytes of those that marks have and some beside them: it has a mark, or may get one by some bytes, or not.
func TestAgainstTheWords(t *testing.T) {
	const some = "\x00a\xba\xbb\xbe\xbf\xee\xef\xf0\xfd\xfe\xff"
	var try func(s string)
	try = func(s string) {
		found, may := api.None, false
		for encoding, m := range marks() {
			if strings.HasPrefix(s, m) {
				found = encoding
			}
			may = may || len(s) < len(m) && s+m[len(s):] == m
		}
		if found != api.None {
			isSniffed(t, s, found)
		} else {
			isUnmarked(t, s, may)
		}
		for i := 0; i < len(some) && len(s) < 4; i++ {
			try(s + some[i:i+1])
		}
	}
	try("")
	for c := range 256 {
		s := string([]byte{byte(c)})
		isUnmarked(t, s, c == 0xEF || c == 0xFE || c == 0xFF)
	}
}

// texts that a mark is put ahead of; some have one already.
func texts() []string {
	return []string{"", "x", "a\x00", "\xbb\xbf", "\xbf", "\xff", "\xfe", "\xef\xbb\xbf", "\xff\xfea\x00", "\xfe\xff\x00a", "\x00", strings.Repeat("a", api.MaxText-1), strings.Repeat("\xff", api.MaxText)}
}

// H1, H2: a mark that is put is found, and what stands behind it is the text.
func TestPut(t *testing.T) {
	for encoding, m := range marks() {
		for _, s := range texts() {
			got := put(t, encoding, s)
			if got != m+s {
				t.Errorf("Put %d %.20q: %.20q", encoding, s, got)
			}
			isSniffed(t, got, encoding)
			if _, n := mark.Sniff(got); got[n:] != s {
				t.Errorf("Put %d %.20q: %.20q stands behind the mark", encoding, s, got[n:])
			}
		}
	}
}

// H1: of an encoding that has no mark a text stays as it is, with the mark of another one, too.
func TestPutOfNoMark(t *testing.T) {
	for _, encoding := range []int{api.Latin, api.User, api.Kana, api.Stop} {
		for _, s := range texts() {
			if got := put(t, encoding, s); got != s {
				t.Errorf("Put %d %.20q: %.20q", encoding, s, got)
			}
		}
	}
}

// H1, P1: a text of MaxText bytes has room for a mark, however long it is then; one more byte is too many.
func TestLongest(t *testing.T) {
	for encoding := api.Utf8; encoding <= api.Stop; encoding++ {
		s := strings.Repeat("a", api.MaxText)
		if got := put(t, encoding, s); got != marks()[encoding]+s {
			t.Errorf("Put %d: %d bytes", encoding, len(got))
		}
		for _, s := range []string{s + "a", "\xef\xbb\xbf" + s, "\xff\xfe" + s, strings.Repeat("a", 1<<20)} {
			if got, e := mark.Put(encoding, s); got != "" || e != api.ErrMany {
				t.Errorf("Put %d of %d bytes: %d bytes, %d", encoding, len(s), len(got), e)
			}
		}
	}
}

// H1, P1: no such encoding; ErrKind is named ahead of ErrMany.
func TestPutOfNoEncoding(t *testing.T) {
	for _, n := range noEncodings() {
		for _, s := range append(texts(), strings.Repeat("a", api.MaxText+1)) {
			if got, e := mark.Put(n, s); got != "" || e != api.ErrKind {
				t.Errorf("Put %d of %d bytes: %.20q %d", n, len(s), got, e)
			}
		}
	}
}

// P2: what is answered is new memory, with a mark and without one.
func TestAnswersAreNew(t *testing.T) {
	for encoding := api.Utf8; encoding <= api.Stop; encoding++ {
		s := strings.Repeat("ab", 50)
		one, two := put(t, encoding, s), put(t, encoding, s)
		if within(one, s) || within(two, one) || within(one, two) {
			t.Errorf("Put %d: the answer is no new memory", encoding)
		}
	}
}

// within: does a text that is not empty lie in the memory of another one?
func within(s, other string) bool {
	at, begin := uintptr(unsafe.Pointer(unsafe.StringData(s))), uintptr(unsafe.Pointer(unsafe.StringData(other)))
	return at >= begin && at < begin+uintptr(len(other))
}

// P2, P3: a text of bytes that change later is not kept, and a call answers the same again, whatever was asked meanwhile.
func TestAnswersStay(t *testing.T) {
	for encoding := api.Utf8; encoding <= api.Stop; encoding++ {
		b := []byte("\xefa")
		s := unsafe.String(&b[0], len(b))
		was := put(t, encoding, s)
		want := marks()[encoding] + "\xefa"
		b[1] = 'b'
		if was != want {
			t.Errorf("Put %d: %q, which was changed later", encoding, was)
		}
		for other := api.None; other <= api.Stop+1; other++ {
			mark.Put(other, "\xfe\xff")
		}
		mark.Sniff("\xef\xbb\xbf")
		mark.May("\xff")
		b[1] = 'a'
		if again := put(t, encoding, s); again != want {
			t.Errorf("Put %d: %q, then %q", encoding, was, again)
		}
	}
	for range 2 {
		isSniffed(t, "\xff\xfe", api.Utf16l)
		isUnmarked(t, "\xef\xbb", true)
		isSniffed(t, "\xfe\xff", api.Utf16b)
	}
}
