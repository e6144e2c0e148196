package front_test

import (
	"slices"
	"strings"
	"testing"
	"unsafe"

	"cartouche/api"
	"cartouche/front"
	"cartouche/stream"
)

func begin(t *testing.T, name string) api.Front {
	t.Helper()
	got, e := front.Begin(name)
	if e != api.OK {
		t.Errorf("Begin %.20q: error %d", name, e)
	}
	return got
}

// feed also asks of the front that comes out whether it may be handed in.
func feed(t *testing.T, f api.Front, s string, last bool) ([]int, api.Front) {
	t.Helper()
	got, y, e := front.Feed(f, s, last)
	if e != api.OK {
		t.Errorf("Feed %.200q %.20q %v: error %d", show(f), s, last, e)
	}
	if e := front.Check(y); e != api.OK {
		t.Errorf("Feed %.200q %.20q %v: %.200q, of which Check says %d", show(f), s, last, show(y), e)
	}
	return got, y
}

// decoded: all code points of a text that need not be short, by the chapters ahead.
func decoded(t *testing.T, name, s string) []int {
	t.Helper()
	encoding, _, size := chosen(name, s[:min(len(s), api.MaxText)])
	x, _ := stream.Open(encoding)
	var l []int
	for s = s[size:]; len(s) > 1000; s = s[1000:] {
		more, y, _ := stream.Feed(x, s[:1000], false)
		l, x = append(l, more...), y
	}
	more, _, e := stream.Feed(x, s, true)
	if e != api.OK {
		t.Fatalf("%.20q is not decoded: %d", s, e)
	}
	return append(l, more...)
}

// after: the front, and what is told, when a text came and is not all there, by the document's words.
func after(t *testing.T, name, s string) ([]int, api.Front) {
	t.Helper()
	encoding, why, size := chosen(name, s)
	enough := len(s) >= 256 || why == api.ByMark || why == api.ByLabel && len(s) >= 3
	if !enough {
		return nil, api.Front{Label: name, Wait: s}
	}
	x, _ := stream.Open(encoding)
	l, x, e := stream.Feed(x, s[size:], false)
	if e != api.OK {
		t.Fatalf("%.20q is not decoded: %d", s, e)
	}
	return l, api.Front{Label: name, Encoding: encoding, Why: why, State: x}
}

// tryPieces: what is told of them is what is told of the text, at no time more or less than of as much of it at once; at the end the front is as at the beginning.
func tryPieces(t *testing.T, name string, pieces ...string) {
	t.Helper()
	f, came := begin(t, name), ""
	var told []int
	for i, s := range pieces {
		last := i == len(pieces)-1
		l, y := feed(t, f, s, last)
		told, f, came = append(told, l...), y, came+s
		if last || len(came) > api.MaxText {
			continue
		}
		if want, then := after(t, name, came); !slices.Equal(told, want) || f != then {
			t.Errorf("Feed %q, label %.20q: %x %.200q, not %x %.200q", pieces[:i+1], name, told, show(f), want, show(then))
		}
	}
	if want := decoded(t, name, came); !slices.Equal(told, want) {
		t.Errorf("Feed %.99q, label %.20q: %d code points, %.200x, not %d, %.200x", pieces, name, len(told), told, len(want), want)
	}
	if f != begin(t, name) {
		t.Errorf("Feed %.99q, label %.20q: %.200q at the end", pieces, name, show(f))
	}
}

// cut a text into pieces of so many bytes.
func cut(s string, by int) []string {
	var l []string
	for c := range slices.Chunk([]byte(s), by) {
		l = append(l, string(c))
	}
	return l
}

// eachCut of a text into pieces, none of them empty.
func eachCut(s string, try func([]string)) {
	for bits := range 1 << max(0, len(s)-1) {
		var l []string
		from := 0
		for at := 1; at <= len(s); at++ {
			if at == len(s) || bits>>(at-1)&1 == 1 {
				l = append(l, s[from:at])
				from = at
			}
		}
		try(l)
	}
}

// K2: a front at the beginning has nothing but its label, which may find nothing, and is told as it was; one that is too long is an error.
func TestBegin(t *testing.T) {
	full := strings.Repeat(" ", api.MaxText)
	for _, name := range append(noLabels(), " UTF-8 ", "latin1", "\xff", full) {
		if f := begin(t, name); f != (api.Front{Label: name}) {
			t.Errorf("Begin %.20q: %.200q", name, show(f))
		}
		isFine(t, begin(t, name))
	}
	for _, long := range []string{full + " ", "utf-8" + full, strings.Repeat("x", 1<<20)} {
		if f, e := front.Begin(long); f != (api.Front{}) || e != api.ErrMany {
			t.Errorf("Begin of %d bytes: %.200q %d", len(long), show(f), e)
		}
	}
}

// step: what comes, what is told then, and the front.
type step struct {
	bytes string
	told  []int
	then  api.Front
}

// trySteps, and what is told behind them.
func trySteps(t *testing.T, name string, steps []step, end []int) {
	t.Helper()
	f := begin(t, name)
	for _, s := range steps {
		s.then.Label = name
		l, y := feed(t, f, s.bytes, false)
		if !slices.Equal(l, s.told) || y != s.then {
			t.Errorf("Feed %.200q with %q: %x %.200q, not %x %.200q", show(f), s.bytes, l, show(y), s.told, show(s.then))
		}
		f = y
	}
	if l, y := feed(t, f, "", true); !slices.Equal(l, end) || y != (api.Front{Label: name}) {
		t.Errorf("Feed %.200q at the end: %x %.200q, not %x", show(f), l, show(y), end)
	}
}

// K2: texts that are written out, byte by byte.
func TestByteByByte(t *testing.T) {
	waits := func(s string) api.Front { return api.Front{Wait: s} }
	chose := func(n, why int, rest string) api.Front {
		return api.Front{Encoding: n, Why: why, State: api.State{Encoding: n, Rest: rest}}
	}
	// A label, and two bytes, then three: what waits is told by it.
	trySteps(t, "utf-8", []step{{"a", nil, waits("a")}, {"\xe2", nil, waits("a\xe2")}, {"\x82", []int{'a'}, chose(1, 2, "\xe2\x82")}, {"\xac", []int{0x20AC}, chose(1, 2, "")}}, nil)
	trySteps(t, " UTF-8 ", []step{{"\xe2", nil, waits("\xe2")}, {"\x82", nil, waits("\xe2\x82")}}, []int{api.Bad})
	trySteps(t, "latin1", []step{{"\xe2", nil, waits("\xe2")}, {"\x82", nil, waits("\xe2\x82")}, {"\xac", []int{0xE2, 0x201A, 0xAC}, chose(4, 2, "")}, {"a", []int{'a'}, chose(4, 2, "")}}, nil)
	trySteps(t, "iso-2022-jp", []step{{"\x1b", nil, waits("\x1b")}, {"(", nil, waits("\x1b(")}, {"I", nil, api.Front{Encoding: 6, Why: 2, State: api.State{Encoding: 6, Signs: 2, Fresh: true}}}, {"!", []int{0xFF61}, api.Front{Encoding: 6, Why: 2, State: api.State{Encoding: 6, Signs: 2}}}}, nil)
	trySteps(t, "replacement", []step{{"a", nil, waits("a")}, {"b", nil, waits("ab")}, {"c", []int{api.Bad}, api.Front{Encoding: 7, Why: 2, State: api.State{Encoding: 7, Stopped: true}}}, {"d", nil, api.Front{Encoding: 7, Why: 2, State: api.State{Encoding: 7, Stopped: true}}}}, nil)
	// A mark is enough, with a label and without one; its bytes are gone.
	for _, name := range []string{"", "no", "latin1", "utf-8", "replacement"} {
		trySteps(t, name, []step{{"\xef", nil, waits("\xef")}, {"\xbb", nil, waits("\xef\xbb")}, {"\xbf", nil, chose(1, 1, "")}, {"\xe2", nil, chose(1, 1, "\xe2")}, {"a", []int{api.Bad, 'a'}, chose(1, 1, "")}}, nil)
		trySteps(t, name, []step{{"\xfe", nil, waits("\xfe")}, {"\xff", nil, chose(3, 1, "")}, {"\x20", nil, chose(3, 1, "\x20")}, {"\xac", []int{0x20AC}, chose(3, 1, "")}}, nil)
		trySteps(t, name, []step{{"\xff", nil, waits("\xff")}, {"\xfe", nil, chose(2, 1, "")}, {"\xac", nil, chose(2, 1, "\xac")}}, []int{api.Bad})
		trySteps(t, name, []step{{"", nil, waits("")}, {"\xff", nil, waits("\xff")}, {"", nil, waits("\xff")}, {"\xfe", nil, chose(2, 1, "")}, {"", nil, chose(2, 1, "")}}, nil)
		trySteps(t, name, []step{{"\xfe\xff\xfe\xff\x00a\x00", []int{0xFEFF, 'a'}, chose(3, 1, "\x00")}}, []int{api.Bad})
	}
	// Half a mark, and no more.
	trySteps(t, "", []step{{"\xef", nil, waits("\xef")}, {"\xbb", nil, waits("\xef\xbb")}}, []int{0xEF, 0xBB})
	trySteps(t, "utf-8", []step{{"\xef", nil, waits("\xef")}, {"\xbb", nil, waits("\xef\xbb")}}, []int{api.Bad})
	trySteps(t, "utf-8", []step{{"\xef", nil, waits("\xef")}, {"\xbb", nil, waits("\xef\xbb")}, {"a", []int{api.Bad, 'a'}, chose(1, 2, "")}}, nil)
	trySteps(t, "", []step{{"\xfe", nil, waits("\xfe")}, {"\xfe", nil, waits("\xfe\xfe")}, {"\xff", nil, waits("\xfe\xfe\xff")}}, []int{0xFE, 0xFE, 0xFF})
	trySteps(t, "utf-16be", []step{{"\x00", nil, waits("\x00")}, {"\xfe", nil, waits("\x00\xfe")}, {"\xff", []int{0xFE}, chose(3, 2, "\xff")}}, []int{api.Bad})
}

// K2: without a label that finds something MaxScan bytes are enough, and one less is not, though the text says at its beginning what it is.
func TestWaitsForMaxScan(t *testing.T) {
	for _, name := range []string{"", "no"} {
		for _, s := range []string{utf8 + "\xe2\x82\xac", latin1 + "\x80", kana + "\x1b(I!", "<meta charset=replacement>", "", "\xef\xbb", "x\xff\xfe", "<!--", strings.Repeat("x", api.MaxScan-len(utf8)) + utf8, strings.Repeat("x", api.MaxScan-len(utf8)+1) + utf8} {
			s += strings.Repeat("y", max(1, api.MaxScan-len(s)))
			just, less := s[:api.MaxScan], s[:api.MaxScan-1]
			tryPieces(t, name, cut(s, 1)...)
			tryPieces(t, name, less)
			tryPieces(t, name, less, "")
			tryPieces(t, name, less, s[api.MaxScan-1:])
			tryPieces(t, name, just, s[api.MaxScan:], "")
			tryPieces(t, name, just)
			if l, f := feed(t, begin(t, name), less, false); len(l) != 0 || f != (api.Front{Label: name, Wait: less}) {
				t.Errorf("Feed with a byte less than MaxScan: %d code points, %.200q", len(l), show(f))
			}
			encoding, why, _ := chosen(name, just)
			if _, f := feed(t, begin(t, name), just, false); f.Encoding != encoding || f.Why != why || f.Wait != "" {
				t.Errorf("Feed with MaxScan bytes: %.200q", show(f))
			}
		}
	}
}

// K2, K3: what a text says behind MaxScan bytes does not choose, though it comes at once with those that wait.
func TestSaidTooLate(t *testing.T) {
	s := strings.Repeat("\xe2", api.MaxScan-len(utf8)) + utf8 + "\x82"
	for n := range len(s) {
		for _, ahead := range []string{"", "x", "\xff"} {
			tryPieces(t, "", (ahead + s)[:n], (ahead + s)[n:])
			tryPieces(t, "", (ahead + s)[:n], (ahead + s)[n:], "")
		}
	}
}

// K3: all texts of some bytes, in all pieces, with labels of all kinds: the last one may be the last, or nothing may come behind it, or ahead.
func TestPiecesTellTheSame(t *testing.T) {
	try := func(s string, names ...string) {
		for _, name := range names {
			eachCut(s, func(pieces []string) {
				tryPieces(t, name, pieces...)
				tryPieces(t, name, append(slices.Clone(pieces), "")...)
				tryPieces(t, name, append([]string{"", ""}, pieces...)...)
			})
		}
	}
	eachText([]string{"\xef", "\xbb", "\xbf", "\xfe", "\xff"}, 4, func(s string) { try(s, "", "no", "utf-8", "l1") })
	eachText([]string{"\xd8", "\xdc", "\x00"}, 4, func(s string) { try(s, "", "utf-16le", " UTF-16BE", "x-user-defined") })
	eachText([]string{"\x1b", "(", "I"}, 4, func(s string) { try(s, "iso-2022-jp", "iso-2022-kr") })
	for _, m := range marks() {
		eachText([]string{"\xd8", "\xe2", "\x82"}, 3, func(s string) { try(m+s, "", "iso-2022-jp") })
		eachText([]string{m, "\xef", "\xff"}, 2, func(s string) { try("\x80"+s, "", "utf-8") })
	}
}

// K3: texts that say what they are, in pieces of each size.
func TestPiecesOfEachSize(t *testing.T) {
	for _, name := range []string{"", "no", "utf-8", "iso-2022-jp", "replacement"} {
		for _, ahead := range []string{"", "\xef\xbb\xbf", "\xfe\xff", "\xff\xfe", "\xef\xbb", "\xff"} {
			for _, said := range []string{utf8, latin1, kana, "<!--", ""} {
				s := ahead + said + strings.Repeat("\xe2\x82\xac\x1b(J\\\x80", 40)
				for by := 1; by <= len(s); by = by*2 + by%3 {
					tryPieces(t, name, cut(s, by)...)
					tryPieces(t, name, append(cut(s, by), "")...)
				}
			}
		}
	}
}

// K2: the last piece, with too few bytes to choose, or with none, at once or behind others.
func TestLastOfAFew(t *testing.T) {
	for _, c := range []struct {
		name, s string
		want    []int
	}{
		{"", "", nil}, {"utf-8", "", nil}, {"replacement", "", nil},
		{"", "\x80", []int{0x20AC}}, {"no", "\x80", []int{0x20AC}}, {"utf-8", "\x80", []int{api.Bad}}, {"x-user-defined", "\x80", []int{0xF780}}, {"utf-16", "\x80", []int{api.Bad}}, {"utf-16", "a\x00", []int{'a'}}, {"replacement", "a", []int{api.Bad}},
		{"", utf8[:13] + "=utf8 \xe2\x82\xac", []int{'<', 'm', 'e', 't', 'a', ' ', 'c', 'h', 'a', 'r', 's', 'e', 't', '=', 'u', 't', 'f', '8', ' ', 0x20AC}},
		{"", "\xef\xbb\xbf", nil}, {"latin1", "\xef\xbb\xbf", nil}, {"", "\xfe\xff", nil}, {"", "\xff\xfe", nil}, {"utf-8", "\xff\xfe", nil}, {"utf-8", "\xff\xfe\x00", []int{api.Bad}},
		{"", "\xef\xbb", []int{0xEF, 0xBB}}, {"utf-16be", "\xef\xbb", []int{0xEFBB}}, {"latin1", "\xff", []int{0xFF}},
	} {
		for n := range len(c.s) + 1 {
			ahead, f := feed(t, begin(t, c.name), c.s[:n], false)
			l, y := feed(t, f, c.s[n:], true)
			if l = append(ahead, l...); !slices.Equal(l, c.want) || y != begin(t, c.name) {
				t.Errorf("Feed %q and %q, label %q: %x %.200q, not %x", c.s[:n], c.s[n:], c.name, l, show(y), c.want)
			}
		}
	}
}

// K2: behind the last bytes another text may come: its encoding is chosen anew, by the same label.
func TestAnotherTextBehindTheLast(t *testing.T) {
	texts := []string{"", "a", "\xef\xbb\xbf\xe2", "\xff\xfea", "\xe2\x82", kana + "\x1b(I", utf8 + strings.Repeat("\xe2", api.MaxScan)}
	for _, name := range []string{"", "no", "utf-8", "iso-2022-jp", "replacement"} {
		for _, one := range texts {
			for _, two := range texts {
				for n := range min(len(one), 4) {
					_, f := feed(t, begin(t, name), one[:n], false)
					_, f = feed(t, f, one[n:], true)
					if l, y := feed(t, f, two, true); f != begin(t, name) || y != f || !slices.Equal(l, decoded(t, name, two)) {
						t.Errorf("Feed %.40q, label %q, behind %.40q: %.200q %x %.200q", two, name, one, show(f), l, show(y))
					}
				}
			}
		}
	}
}

// K2, P1: just MaxText bytes, while others wait or none, and one more; those that wait are not counted.
func TestLongest(t *testing.T) {
	waiting := map[string][]string{
		"":      {"", "x", "\xef\xbb", "\xff", strings.Repeat("y", api.MaxScan-1), utf8, utf8 + strings.Repeat("\xe2", api.MaxScan-1-len(utf8))},
		"utf-8": {"", "x", "\xef\xbb", "\xff", "\xe2\x82"}, "iso-2022-jp": {"", "\x1b", "\x1b("}, "utf-16be": {"", "\xd8", "\xd8\x00", "\xfe"}, "replacement": {"", "ab"},
	}
	for name, some := range waiting {
		for _, wait := range some {
			for _, s := range []string{"x", "\xbf", "\xfe\x00", "\xac\xe2\x82", "I!\x1b(", "\xff\xd8\x00\xdc\x00\xd8"} {
				long := strings.Repeat(s, api.MaxText/len(s)+1)
				tryPieces(t, name, wait, long[:api.MaxText])
				tryPieces(t, name, wait, long[:api.MaxText], "")
				tryPieces(t, name, wait, long[:api.MaxText], long[:api.MaxText], "x")
				_, f := feed(t, begin(t, name), wait, false)
				_, g := feed(t, f, long[:api.MaxText], false)
				for _, front := range []api.Front{f, g} {
					isTooMany(t, front, long[:api.MaxText]+"x")
					isTooMany(t, front, long+long)
				}
			}
		}
	}
}

// isTooMany: bytes that are too many for a front that may be.
func isTooMany(t *testing.T, f api.Front, bytes string) {
	t.Helper()
	for _, last := range []bool{false, true} {
		if l, y, e := front.Feed(f, bytes, last); len(l) != 0 || y != (api.Front{}) || e != api.ErrMany {
			t.Errorf("Feed %.200q with %d bytes: %d code points, %.200q %d", show(f), len(bytes), len(l), show(y), e)
		}
	}
}

// P2: nothing of a front that comes out lies in the memory of what was handed in.
func TestFrontIsTheCallers(t *testing.T) {
	within := func(s, other string) bool {
		at, from := uintptr(unsafe.Pointer(unsafe.StringData(s))), uintptr(unsafe.Pointer(unsafe.StringData(other)))
		return s != "" && at >= from && at < from+uintptr(len(other))
	}
	for _, name := range []string{strings.Clone("no label"), strings.Clone("utf-8"), strings.Clone("iso-2022-jp")} {
		f := begin(t, name)
		if within(f.Label, name) {
			t.Errorf("Begin %q: the label is that which was handed in", name)
		}
		for _, s := range []string{"a", "", "\xe2", "\xe2\x1b", "", strings.Repeat("x", api.MaxScan) + "\x1b(", "\x1b(", ""} {
			s = strings.Clone(s)
			for _, last := range []bool{true, false} {
				_, y := feed(t, f, s, last)
				for _, out := range []string{y.Label, y.Wait, y.State.Rest} {
					for _, in := range []string{name, s, f.Label, f.Wait, f.State.Rest} {
						if within(out, in) {
							t.Errorf("Feed %.200q with %.20q: %.20q lies in what was handed in", show(f), s, out)
						}
					}
				}
				if !last {
					f = y
				}
			}
		}
	}
}

// P2, P3: bytes that change behind the call are not seen in the front.
func TestBytesThatChange(t *testing.T) {
	b, name := []byte("\xef\xbb"), []byte("latin1")
	f := begin(t, unsafe.String(&name[0], len(name)))
	copy(name, "utf-8 ")
	_, f = feed(t, f, unsafe.String(&b[0], len(b)), false)
	copy(b, "xy")
	if want := (api.Front{Label: "latin1", Wait: "\xef\xbb"}); f != want {
		t.Errorf("Feed: %.200q, not %.200q", show(f), show(want))
	}
	if l, _ := feed(t, f, "x", true); !slices.Equal(l, []int{0xEF, 0xBB, 'x'}) {
		t.Errorf("Feed of what waited: %x", l)
	}
}

// P2, P3: a front may be fed twice, and tells the same; what is told is the caller's.
func TestFedTwice(t *testing.T) {
	for _, name := range []string{"", "utf-8", "utf-16", "iso-2022-jp", "replacement", "x-user-defined"} {
		for _, ahead := range []string{"", "a", "\xef\xbb", "\xe2\x82\x1b(I", strings.Repeat("x", api.MaxScan-1), strings.Repeat("x", api.MaxScan)} {
			for _, last := range []bool{false, true} {
				_, f := feed(t, begin(t, name), ahead, false)
				before := f
				one, y := feed(t, f, "\xbfJ\\\x00a", last)
				want := slices.Clone(one)
				room := one[:cap(one)]
				for i := range room {
					room[i] = -1
				}
				feed(t, y, "\x1b(Ia", true)
				front.Feed(f, strings.Repeat("x", api.MaxText+1), true)
				front.Choose("latin1", "\xff\xfe")
				if two, z := feed(t, f, "\xbfJ\\\x00a", last); !slices.Equal(two, want) || z != y || f != before {
					t.Errorf("Feed %.200q twice: %x %.200q, then %x %.200q", show(f), want, show(y), two, show(z))
				}
			}
		}
	}
}
