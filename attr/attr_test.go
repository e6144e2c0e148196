package attr_test

import (
	"regexp"
	"slices"
	"strings"
	"testing"
	"unsafe"

	"cartouche/api"
	"cartouche/attr"
)

const (
	most  = int(^uint(0) >> 1)
	white = "\t\n\f\r "
)

// one byte, as a text.
func one(c int) string {
	return string([]byte{byte(c)})
}

// isWhite: is it one of the five?
func isWhite(c int) bool {
	return strings.Contains(white, one(c))
}

// isNext: what Next answers of a text from its beginning on, or from a place on, if there is an attribute.
func isNext(t *testing.T, s string, at int, name, value string, to int) {
	t.Helper()
	got, end, ok, e := attr.Next(s, at)
	if want := (api.Attr{Name: name, Value: value}); got != want || end != to || !ok || e != api.OK {
		t.Errorf("Next %q %d: %q %d %v %d, not %q %d", s, at, got, end, ok, e, want, to)
	}
}

// isNone: there is no attribute, and All finds none either; the place is told.
func isNone(t *testing.T, s string, at, to int) {
	t.Helper()
	if got, end, ok, e := attr.Next(s, at); got != (api.Attr{}) || end != to || ok || e != api.OK {
		t.Errorf("Next %q %d: %q %d %v %d, not %d", s, at, got, end, ok, e, to)
	}
	isAll(t, s, at, to)
}

// isAll: what All answers.
func isAll(t *testing.T, s string, at, to int, want ...api.Attr) {
	t.Helper()
	if got, end, e := attr.All(s, at); !slices.Equal(got, want) || end != to || e != api.OK {
		t.Errorf("All %q %d: %q %d %d, not %q %d", s, at, got, end, e, want, to)
	}
}

// I1: names and values, and the place behind them.
func TestNext(t *testing.T) {
	for _, c := range []struct {
		s, name, value string
		to             int
	}{
		{"a", "a", "", 1}, {"a ", "a", "", 2}, {"a  \t>", "a", "", 4}, {"a>", "a", "", 1}, {"a/", "a", "", 1}, {"a /", "a", "", 2}, {"a b", "a", "", 2},
		{"a=b", "a", "b", 3}, {"a=b ", "a", "b", 3}, {"a=b>", "a", "b", 3}, {"a=b/>", "a", "b/", 4}, {"a=b/c d", "a", "b/c", 5}, {"a=/>", "a", "/", 3}, {"a=/", "a", "/", 3},
		{"a =b", "a", "b", 4}, {"a= b", "a", "b", 4}, {"a\t\n=\f\r b c", "a", "b", 8}, {"a  = > ", "a", "", 5},
		{"a=", "a", "", 2}, {"a= ", "a", "", 3}, {"a=>", "a", "", 2}, {"a= >", "a", "", 3}, {"a=  ", "a", "", 4},
		{`a="b"`, "a", "b", 5}, {`a='b'`, "a", "b", 5}, {`a="b"c`, "a", "b", 5}, {`a="b" `, "a", "b", 5}, {`a="b">`, "a", "b", 5}, {`a = "b" >`, "a", "b", 7},
		{`a=""`, "a", "", 4}, {`a=''`, "a", "", 4}, {`a=""b`, "a", "", 4}, {`a="'"`, "a", "'", 5}, {`a='"'`, "a", `"`, 5}, {`a="it's" b`, "a", "it's", 8},
		{`a=" b > / = c "x`, "a", " b > / = c ", 15}, {`a='>'>`, "a", ">", 5}, {`a=b"c"`, "a", `b"c"`, 6}, {`a=b'`, "a", "b'", 4}, {"a==b", "a", "=b", 4}, {"a===", "a", "==", 4},
		{"=", "=", "", 1}, {"==", "=", "", 2}, {"===", "=", "=", 3}, {"=a", "=a", "", 2}, {"=a=b", "=a", "b", 4}, {"= =b", "=", "b", 4}, {"=/=b", "=", "", 1}, {"=>", "=", "", 1}, {" /=b", "=b", "", 4}, {`="b"`, `="b"`, "", 4},
		{`"`, `"`, "", 1}, {`"a"=b`, `"a"`, "b", 5}, {`'a b'`, "'a", "", 3}, {"<a", "<a", "", 2}, {"a<b=c<d", "a<b", "c<d", 7}, {"a;b&c=d", "a;b&c", "d", 7},
		{" a", "a", "", 2}, {"/a", "a", "", 2}, {" / // \t\n\f\ra=b", "a", "b", 13}, {"/=/=/", "=", "", 2},
		{"A", "a", "", 1}, {"CHARSET=UTF-8", "charset", "utf-8", 13}, {`Ab = "Cd EF"`, "ab", "cd ef", 12}, {"@AZ[`az{='@AZ[`az{'", "@az[`az{", "@az[`az{", 19},
		{"\x00=\x00", "\x00", "\x00", 3}, {"\xff\x80=\xc3\x84", "\xff\x80", "\xc3\x84", 5}, {"\v=\v\v", "\v", "\v\v", 4}, {"\xc2\xa0a", "\xc2\xa0a", "", 3}, {"\u0130=\u212a", "\u0130", "\u212a", 6},
	} {
		isNext(t, c.s, 0, c.name, c.value, c.to)
		for _, ahead := range []string{" ", "/", "x>", "y='z'", "\xff>"} {
			isNext(t, ahead+c.s, len(ahead), c.name, c.value, len(ahead)+c.to)
		}
	}
}

// I1: at a > and at the end there is none, nor where a quote has no end: then the place is the end.
func TestNone(t *testing.T) {
	for _, c := range []struct {
		s  string
		to int
	}{
		{"", 0}, {" ", 1}, {"/", 1}, {white + "/", 6}, {" / ", 3}, {">", 0}, {" >", 1}, {"/>", 1}, {" / / >", 5}, {">a=b", 0}, {"//>a", 2}, {">>", 0}, {" > ", 1},
		{`a="`, 3}, {`a='`, 3}, {`a="b`, 4}, {`a='b`, 4}, {`a='b"`, 5}, {`a="b'`, 5}, {`a="b>c d=e`, 10}, {`a = 'b > `, 9}, {`/a="/>`, 6}, {`=='`, 3}, {`a="b c='d'`, 10},
	} {
		isNone(t, c.s, 0, c.to)
		isNone(t, "b=c"+c.s, 3, 3+c.to)
	}
}

// I1: which bytes are passed ahead of a name, and which end it.
func TestEachByteAtAName(t *testing.T) {
	for c := range 256 {
		b := one(c)
		small := strings.ToLower(b)
		if c >= 0x80 {
			small = b
		}
		switch {
		case isWhite(c) || c == '/':
			isNext(t, b+b+"a", 0, "a", "", 3)
			isNone(t, b+b, 0, 2)
		case c == '>':
			isNone(t, " >a", 0, 1)
		case c == '=':
			isNext(t, " =a", 0, "=a", "", 3)
		default:
			isNext(t, b, 0, small, "", 1)
			isNext(t, b+b+"a=x", 0, small+small+"a", "x", 5)
		}
		switch {
		case isWhite(c):
			isNext(t, "a"+b+b+"c", 0, "a", "", 3)
			isNext(t, "a"+b+b+"=c", 0, "a", "c", 5)
		case c == '/' || c == '>':
			isNext(t, "a"+b+"c=d", 0, "a", "", 1)
			isNext(t, "a "+b+"c=d", 0, "a", "", 2)
		case c == '=':
			isNext(t, "a=c", 0, "a", "c", 3)
		default:
			isNext(t, "a"+b+"c=d", 0, "a"+small+"c", "d", 5)
			isNext(t, "a "+b+"c=d", 0, "a", "", 2)
		}
	}
}

// I1: which bytes are passed ahead of a value, which end it, and that between quotes none does but the quote.
func TestEachByteAtAValue(t *testing.T) {
	for c := range 256 {
		b := one(c)
		small := strings.ToLower(b)
		if c >= 0x80 {
			small = b
		}
		switch {
		case isWhite(c):
			isNext(t, "a="+b+b+"c", 0, "a", "c", 5)
			isNext(t, "a=c"+b+"d", 0, "a", "c", 3)
		case c == '>':
			isNext(t, "a=>c", 0, "a", "", 2)
			isNext(t, "a=c>d", 0, "a", "c", 3)
		case c == '"' || c == '\'':
			isNone(t, "a="+b+"c", 0, 4)
			isNext(t, "a=c"+b+"d", 0, "a", "c"+b+"d", 5)
		default:
			isNext(t, "a="+b+"c", 0, "a", small+"c", 4)
			isNext(t, "a=c"+b+"d", 0, "a", "c"+small+"d", 5)
		}
		for _, quote := range []string{`"`, "'"} {
			if b == quote {
				isNext(t, "a="+quote+b+"c", 0, "a", "", 4)
			} else {
				isNext(t, "a="+quote+b+"c"+quote+"d", 0, "a", small+"c", 6)
				isNone(t, "a="+quote+"c"+b, 0, 5)
			}
		}
	}
}

// I1: attributes one by one, till there is none.
func TestAll(t *testing.T) {
	isAll(t, "<meta charset=utf-8>", 5, 19, api.Attr{Name: "charset", Value: "utf-8"})
	isAll(t, "a b=c d='e' f", 0, 13, api.Attr{Name: "a"}, api.Attr{Name: "b", Value: "c"}, api.Attr{Name: "d", Value: "e"}, api.Attr{Name: "f"})
	isAll(t, "a b=c>d=e", 0, 5, api.Attr{Name: "a"}, api.Attr{Name: "b", Value: "c"})
	isAll(t, "a b=c / > d", 0, 8, api.Attr{Name: "a"}, api.Attr{Name: "b", Value: "c"})
	isAll(t, `a="1"B='2'c=3/d`, 0, 15, api.Attr{Name: "a", Value: "1"}, api.Attr{Name: "b", Value: "2"}, api.Attr{Name: "c", Value: "3/d"})
	isAll(t, "a=1 a=2 A=3", 0, 11, api.Attr{Name: "a", Value: "1"}, api.Attr{Name: "a", Value: "2"}, api.Attr{Name: "a", Value: "3"})
	isAll(t, "a/b/=/==c", 0, 9, api.Attr{Name: "a"}, api.Attr{Name: "b"}, api.Attr{Name: "="}, api.Attr{Name: "=", Value: "c"})
	isAll(t, "a b='c d=e > ", 0, 13, api.Attr{Name: "a"})
	isAll(t, "a= >", 0, 3, api.Attr{Name: "a"})
	isAll(t, "a=", 0, 2, api.Attr{Name: "a"})
	isAll(t, "a='>' b", 0, 7, api.Attr{Name: "a", Value: ">"}, api.Attr{Name: "b"})
}

// pieces of the rule of an attribute, as patterns: W are white bytes.
func pattern(s string) *regexp.Regexp {
	return regexp.MustCompile(strings.ReplaceAll(s, "W", `\t\n\f\r `))
}

// reader: reads an attribute by patterns.
type reader struct{ ahead, whole *regexp.Regexp }

func newReader() reader {
	return reader{pattern(`^[W/]*`), pattern(`^[W/]*([^W/>][^W/>=]*)[W]*(?:=[W]*(?:"([^"]*)"|'([^']*)'|(["'])|([^W>"'][^W>]*)?))?`)}
}

// next attribute, as Next should answer it.
func (r reader) next(s string, at int) (api.Attr, int, bool) {
	m := r.whole.FindStringSubmatch(s[at:])
	switch {
	case m == nil:
		return api.Attr{}, at + len(r.ahead.FindString(s[at:])), false
	case m[4] != "":
		return api.Attr{}, len(s), false
	}
	return api.Attr{Name: strings.ToLower(m[1]), Value: strings.ToLower(m[2] + m[3] + m[5])}, at + len(m[0]), true
}

// all attributes, as All should answer them.
func (r reader) all(s string, at int) ([]api.Attr, int) {
	var l []api.Attr
	for {
		a, to, ok := r.next(s, at)
		if at = to; !ok {
			return l, at
		}
		l = append(l, a)
	}
}

// each text of up to so many of some pieces.
func each(some []string, many int, try func(string)) {
	var grow func(s string, left int)
	grow = func(s string, left int) {
		try(s)
		for i := 0; i < len(some) && left > 0; i++ {
			grow(s+some[i], left-1)
		}
	}
	grow("", many)
}

// I1: each short text of the bytes that count, from each place on.
func TestAgainstPatterns(t *testing.T) {
	r := newReader()
	each([]string{"A", "b", "=", " ", "/", ">", "'", `"`}, 5, func(s string) {
		for at := range len(s) + 1 {
			a, to, found := r.next(s, at)
			if got, end, ok, e := attr.Next(s, at); got != a || end != to || ok != found || e != api.OK {
				t.Errorf("Next %q %d: %q %d %v %d, not %q %d %v", s, at, got, end, ok, e, a, to, found)
			}
			l, to := r.all(s, at)
			isAll(t, s, at, to, l...)
		}
	})
}

// I1: from each place of a text on; a place ahead of it or behind it is no place.
func TestPlaces(t *testing.T) {
	for _, s := range []string{"", "a", "a=b", " a = 'b' / >", "\xff"} {
		for at := range len(s) + 1 {
			if _, to, _, e := attr.Next(s, at); to < at || to > len(s) || e != api.OK {
				t.Errorf("Next %q %d: %d %d", s, at, to, e)
			}
		}
		for _, at := range []int{-1, -2, len(s) + 1, len(s) + 2, api.MaxText, 1 << 32, -1 << 32, most, -most - 1} {
			if got, to, ok, e := attr.Next(s, at); got != (api.Attr{}) || to != 0 || ok || e != api.ErrRange {
				t.Errorf("Next %q %d: %q %d %v %d", s, at, got, to, ok, e)
			}
			if got, to, e := attr.All(s, at); len(got) != 0 || to != 0 || e != api.ErrRange {
				t.Errorf("All %q %d: %q %d %d", s, at, got, to, e)
			}
		}
	}
}

// I1, P1: a text of MaxText bytes is not too long; of one that is, no place is asked.
func TestLongest(t *testing.T) {
	s := strings.Repeat(" ", api.MaxText-3) + "a=b"
	isNext(t, s, 0, "a", "b", api.MaxText)
	isNext(t, strings.Repeat("A", api.MaxText), 0, strings.Repeat("a", api.MaxText), "", api.MaxText)
	isNext(t, "a='"+strings.Repeat("B", api.MaxText-4)+"'", 0, "a", strings.Repeat("b", api.MaxText-4), api.MaxText)
	isNone(t, "a='"+strings.Repeat("b", api.MaxText-3), 0, api.MaxText)
	isNone(t, s, api.MaxText, api.MaxText)
	isAll(t, strings.Repeat("a ", api.MaxText/2), 0, api.MaxText, slices.Repeat([]api.Attr{{Name: "a"}}, api.MaxText/2)...)
	isAll(t, strings.Repeat("=/", api.MaxText/2), 0, api.MaxText, slices.Repeat([]api.Attr{{Name: "="}}, api.MaxText/2)...)
	for _, s := range []string{s + " ", " " + s, s + ">", strings.Repeat("a", api.MaxText+1), strings.Repeat(">", api.MaxText+1), strings.Repeat(" ", 1<<20)} {
		for _, at := range []int{0, 1, api.MaxText, len(s), -1, len(s) + 1, most, -most - 1} {
			if got, to, ok, e := attr.Next(s, at); got != (api.Attr{}) || to != 0 || ok || e != api.ErrMany {
				t.Errorf("Next of %d bytes, %d: %.20q %d %v %d", len(s), at, got, to, ok, e)
			}
			if got, to, e := attr.All(s, at); len(got) != 0 || to != 0 || e != api.ErrMany {
				t.Errorf("All of %d bytes, %d: %d %d %d", len(s), at, len(got), to, e)
			}
		}
	}
}

// plain attributes, and how each may be written.
func plain() map[api.Attr][]string {
	written := map[api.Attr][]string{}
	for _, name := range []string{"a", "charset", "http-equiv", "=", "=x", "\x00", "\xff\xfe", "data-1", `"`, "'q'", "<", "\v"} {
		written[api.Attr{Name: name}] = []string{name, name + "=''", name + ` = ""`}
		for _, value := range []string{"b", "utf-8", "text/html;charset=x", "/", "=", "b'", "\x00", "\xe2\x82\xac", "<", "\v"} {
			written[api.Attr{Name: name, Value: value}] = []string{name + "=" + value, name + "\t=\n" + value, name + `="` + value + `"`}
		}
		for _, value := range []string{" ", "text/html; charset=utf-8", "'", "a > b", "'b' c/", white} {
			written[api.Attr{Name: name, Value: value}] = []string{name + `="` + value + `"`, name + white + "=" + white + `"` + value + `"`}
		}
		for _, value := range []string{`"`, `a "b" > c`, `b"`} {
			written[api.Attr{Name: name, Value: value}] = []string{name + "='" + value + "'"}
		}
	}
	return written
}

// I3: an attribute that is written plainly is read as it was, alone and in the midst of others.
func TestPlainlyWritten(t *testing.T) {
	for a, ways := range plain() {
		for _, s := range ways {
			isAll(t, s, 0, len(s), a)
			isAll(t, "<p "+s+" ><q>", 2, len(s)+4, a)
			isAll(t, "x=y "+s+" z='w'", 0, len(s)+10, api.Attr{Name: "x", Value: "y"}, a, api.Attr{Name: "z", Value: "w"})
			isAll(t, s+" /"+s, 0, 2*len(s)+2, a, a) // a / between: the second name may begin with a =
		}
	}
}

// P2: what is answered lies elsewhere than what was handed in, and each text of it by itself.
func TestAnswersAreNew(t *testing.T) {
	s := strings.Clone("alpha=bravo  charlie='delta'  echo=\"foxtrot\"  echo=foxtrot")
	l, _, _ := attr.All(s, 0)
	again, _, _ := attr.All(s, 0)
	a, _, _, _ := attr.Next(s, 0)
	texts := []string{s, a.Name, a.Value}
	for _, x := range slices.Concat(l, again) {
		texts = append(texts, x.Name, x.Value)
	}
	if len(texts) != 19 {
		t.Fatalf("%d texts", len(texts))
	}
	for i, x := range texts {
		for j, y := range texts {
			if i != j && within(x, y) {
				t.Errorf("%q lies in %q", x, y)
			}
		}
	}
	if l[0].Name = "x"; again[0].Name != "alpha" {
		t.Errorf("All answers one list twice")
	}
}

// within: does a text that is not empty lie in the memory of another one?
func within(s, other string) bool {
	at, begin := uintptr(unsafe.Pointer(unsafe.StringData(s))), uintptr(unsafe.Pointer(unsafe.StringData(other)))
	return at >= begin && at < begin+uintptr(len(other))
}

// P2, P3: a text of bytes that change later is not kept, and a call answers the same again, whatever was asked meanwhile.
func TestAnswersStay(t *testing.T) {
	b := []byte("charset='utf-8' x=yz")
	s := unsafe.String(&b[0], len(b))
	want := []api.Attr{{Name: "charset", Value: "utf-8"}, {Name: "x", Value: "yz"}}
	a, _, _, _ := attr.Next(s, 0)
	l, _, _ := attr.All(s, 0)
	copy(b, "CHARSET=\"latin1\" y=z")
	if a != want[0] || !slices.Equal(l, want) {
		t.Errorf("%q %q, which was changed later", a, l)
	}
	attr.Next("a='b", 0)
	attr.All(strings.Repeat("a", api.MaxText+1), 0)
	attr.Charset("charset=latin1")
	copy(b, "charset='utf-8' x=yz")
	for range 3 {
		isAll(t, s, 0, 20, want...)
		isNext(t, s, 15, "x", "yz", 20)
		isNone(t, s, 20, 20)
		isCharset(t, s, api.Utf8)
	}
}
