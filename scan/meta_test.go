package scan_test

import (
	"slices"
	"strings"
	"testing"
	"unsafe"

	"cartouche/api"
	"cartouche/scan"
)

const white = "\t\n\f\r "

// instead: the encoding that is meant where one is told.
func instead(encoding int) int {
	return []int{api.None, api.Utf8, api.Utf8, api.Utf8, api.Latin, api.Latin, api.Kana, api.Stop}[encoding]
}

func charset(value string) api.Attr { return api.Attr{Name: "charset", Value: value} }
func content(value string) api.Attr { return api.Attr{Name: "content", Value: value} }
func equiv(value string) api.Attr   { return api.Attr{Name: "http-equiv", Value: value} }

// isMeta: what Meta answers of attributes.
func isMeta(t *testing.T, want int, l ...api.Attr) {
	t.Helper()
	if got, e := scan.Meta(l); got != want || e != api.OK {
		t.Errorf("Meta %.60q: %d %d, not %d", l, got, e, want)
	}
}

// orders: the same attributes in each order.
func orders(l []api.Attr) [][]api.Attr {
	if len(l) == 0 {
		return [][]api.Attr{nil}
	}
	var all [][]api.Attr
	for i := range l {
		for _, rest := range orders(slices.Delete(slices.Clone(l), i, i+1)) {
			all = append(all, append([]api.Attr{l[i]}, rest...))
		}
	}
	return all
}

// J1: each label, as a charset and in a content, in each order, among others.
func TestMetaOfEachLabel(t *testing.T) {
	other := api.Attr{Name: "x", Value: "replacement"}
	for _, l := range api.Labels() {
		want := instead(l.Encoding)
		for _, name := range []string{l.Name, strings.ToUpper(l.Name), white + l.Name + white} {
			isMeta(t, want, charset(name))
			for _, o := range orders([]api.Attr{charset(name), other, {}}) {
				isMeta(t, want, o...)
			}
		}
		for _, value := range []string{"charset=" + l.Name, "text/html; charset=" + l.Name + ";", "CharSet = '" + strings.ToUpper(l.Name) + "'"} {
			for _, o := range orders([]api.Attr{content(value), equiv("content-type"), other}) {
				isMeta(t, want, o...)
			}
			isMeta(t, api.None, content(value))
			isMeta(t, api.None, charset(value), equiv("content-type"))
		}
		isMeta(t, api.None, content(l.Name), equiv("content-type"))
		isMeta(t, api.None, api.Attr{Name: l.Name}, other)
	}
}

// J1: UTF-16 and x-user-defined are told, and another encoding is meant, by both ways.
func TestMetaInstead(t *testing.T) {
	for name, want := range map[string]int{"utf-16": api.Utf8, "utf-16le": api.Utf8, "unicode": api.Utf8, "utf-16be": api.Utf8, "unicodefffe": api.Utf8, "x-user-defined": api.Latin, "iso-2022-jp": api.Kana, "replacement": api.Stop} {
		isMeta(t, want, charset(name))
		isMeta(t, want, equiv("content-type"), content("charset="+name))
	}
}

// J1: a content counts only with the right http-equiv, and only without a charset, be that a label or not.
func TestMetaOfContent(t *testing.T) {
	told := content("text/html; charset=latin1")
	for _, value := range []string{"", "refresh", "content", "content-type ", " content-type", "contenttype", "content-types", "content_type", "content-type\x00"} {
		for _, o := range orders([]api.Attr{told, equiv(value)}) {
			isMeta(t, api.None, o...)
		}
	}
	for value, want := range map[string]int{"utf-8": api.Utf8, "no": api.None, "": api.None, "utf-8;": api.None, "charset=utf-8": api.None} {
		for _, o := range orders([]api.Attr{told, equiv("content-type"), charset(value)}) {
			isMeta(t, want, o...)
		}
	}
	for _, value := range []string{"", "latin1", "text/html", "charset", "charset=", "charset=no", "charset='latin1", "charset latin1"} {
		isMeta(t, api.None, equiv("content-type"), content(value))
	}
	isMeta(t, api.None, equiv("content-type"))
	isMeta(t, api.None, api.Attr{Name: "http-equiv"}, api.Attr{Name: "content-type"}, told)
	isMeta(t, api.None, api.Attr{Name: "content-type", Value: "http-equiv"}, told)
}

// J1: of one name the first attribute alone.
func TestMetaOfTheFirst(t *testing.T) {
	isMeta(t, api.Utf8, charset("utf-8"), charset("latin1"))
	isMeta(t, api.Latin, charset("latin1"), charset("utf-8"))
	isMeta(t, api.None, charset("no"), charset("utf-8"))
	isMeta(t, api.None, charset(""), charset("utf-8"))
	isMeta(t, api.None, charset("no"), charset("utf-8"), equiv("content-type"), content("charset=utf-8"))
	isMeta(t, api.Utf8, equiv("content-type"), content("charset=utf-8"), content("charset=latin1"))
	isMeta(t, api.None, equiv("content-type"), content(""), content("charset=latin1"))
	isMeta(t, api.None, equiv("content-type"), content("charset=no"), content("charset=latin1"))
	isMeta(t, api.None, equiv("refresh"), equiv("content-type"), content("charset=utf-8"))
	isMeta(t, api.None, equiv(""), content("charset=utf-8"), equiv("content-type"))
	isMeta(t, api.Utf8, equiv("content-type"), equiv("refresh"), content("charset=utf-8"))
}

// J1: what tells nothing. Names are as Next answers them, of small letters; others are other names.
func TestMetaOfNothing(t *testing.T) {
	isMeta(t, api.None)
	isMeta(t, api.None, api.Attr{})
	isMeta(t, api.None, api.Attr{Value: "utf-8"})
	isMeta(t, api.None, api.Attr{Name: "utf-8"})
	for _, name := range []string{"charse", "charsets", " charset", "charset ", "char\u017fet", "CHARSET", "Charset", "charset\x00", "content", "http-equiv", "encoding"} {
		isMeta(t, api.None, api.Attr{Name: name, Value: "utf-8"})
		isMeta(t, api.Latin, api.Attr{Name: name, Value: "content-type"}, charset("latin1"))
	}
	for _, value := range []string{"", " ", "no", "utf-8;", "'utf-8'", "utf 8", "utf-8\x00", "\vutf-8", "\xff"} {
		isMeta(t, api.None, charset(value))
	}
}

// J1, P1: MaxText attributes, and MaxText bytes, are not too many; one more is, whatever the others tell.
func TestMetaOfTheMost(t *testing.T) {
	full := strings.Repeat(" ", api.MaxText-5) + "utf-8"
	isMeta(t, api.Utf8, charset(full))
	isMeta(t, api.Utf8, equiv("content-type"), content(strings.Replace(full[8:], "utf-8", "charset=utf-8", 1)))
	isMeta(t, api.Latin, api.Attr{Name: full, Value: full}, charset("latin1"))
	isMeta(t, api.None, api.Attr{Name: strings.Repeat("a", api.MaxText)})
	list := make([]api.Attr, api.MaxText)
	isMeta(t, api.None, list...)
	list[api.MaxText-1] = charset("utf-8")
	isMeta(t, api.Utf8, list...)

	long := strings.Repeat("a", api.MaxText+1)
	for _, l := range [][]api.Attr{
		make([]api.Attr, api.MaxText+1), append(slices.Clone(list), api.Attr{}), append([]api.Attr{charset("utf-8")}, list...), make([]api.Attr, 1<<17),
		{charset(" " + full)}, {charset(full + " ")}, {content(long)}, {equiv(long)}, {{Name: long}}, {{Value: long}}, {{Name: long, Value: long}}, {{Value: strings.Repeat("a", 1<<20)}},
		{charset("utf-8"), {Name: long}}, {charset("utf-8"), {Value: long}}, {charset("utf-8"), charset(long)}, {{Name: long}, charset("utf-8")}, {charset("utf-8"), {}, {Name: "x", Value: long}},
		append(slices.Clone(list[1:]), api.Attr{Name: long}),
	} {
		if got, e := scan.Meta(l); got != api.None || e != api.ErrMany {
			t.Errorf("Meta of %d attributes: %d %d", len(l), got, e)
		}
	}
}

// P2, P3: a list is only read, and the room behind it too; the answer is the same again, and hangs on the list as it is then.
func TestMetaOnlyReads(t *testing.T) {
	list := []api.Attr{equiv("content-type"), content("charset=latin1"), charset("utf-8"), {Name: "x", Value: "Y"}}
	was := slices.Clone(list)
	for range 3 {
		isMeta(t, api.Latin, list[:2]...) // what stands behind is none of it
		isMeta(t, api.Utf8, list...)
		isMeta(t, api.None, list[:1]...)
		isMeta(t, api.None, list[1:2]...)
		if !slices.Equal(list, was) {
			t.Fatalf("%q was %q", list, was)
		}
		scan.Meta(make([]api.Attr, api.MaxText+1))
		scan.Scan("<meta charset=iso-2022-jp>")
	}
	b := []byte("utf-8 ")
	a := charset(unsafe.String(&b[0], len(b)))
	isMeta(t, api.Utf8, a)
	copy(b, "latin1")
	isMeta(t, api.Latin, a)
	isMeta(t, api.None, []api.Attr{}...)
}
