package front_test

import (
	"strings"
	"testing"

	"cartouche/api"
	"cartouche/front"
	"cartouche/stream"
)

// isError: a front that is none, whatever comes.
func isError(t *testing.T, f api.Front, want api.Errno) {
	t.Helper()
	if e := front.Check(f); e != want {
		t.Errorf("Check %.200q: %d, not %d", show(f), e, want)
	}
	for _, bytes := range []string{"", "a", "\xef\xbb\xbf", strings.Repeat("a", api.MaxText+1)} { // what Check finds is named ahead of what is wrong with the bytes
		for _, last := range []bool{false, true} {
			if l, y, e := front.Feed(f, bytes, last); len(l) != 0 || y != (api.Front{}) || e != want {
				t.Errorf("Feed %.200q with %d bytes: %x %.200q %d, not %d", show(f), len(bytes), l, show(y), e, want)
			}
		}
	}
}

// isFine: a front that may be.
func isFine(t *testing.T, f api.Front) {
	t.Helper()
	if e := front.Check(f); e != api.OK {
		t.Errorf("Check %.200q: %d", show(f), e)
	}
	if _, _, e := front.Feed(f, "", false); e != api.OK {
		t.Errorf("Feed %.200q: %d", show(f), e)
	}
}

// show a front shortly.
func show(f api.Front) []any {
	cut := func(s string) string { return s[:min(len(s), 20)] }
	return []any{cut(f.Label), len(f.Label), f.Encoding, f.Why, cut(f.Wait), len(f.Wait), f.State}
}

// state at the beginning of an encoding.
func state(n int) api.State { return api.State{Encoding: n} }

// K2: ErrMany: labels, and what waits, of MaxText bytes, and of one more.
func TestCheckOfTooMany(t *testing.T) {
	full := strings.Repeat(" ", api.MaxText)
	isFine(t, api.Front{Label: full})
	isFine(t, api.Front{Label: full, Encoding: api.Utf8, Why: api.ByMark, State: state(api.Utf8)})
	isError(t, api.Front{Wait: full}, api.ErrState)
	isError(t, api.Front{Wait: full, Encoding: api.Utf8, Why: api.ByMark, State: state(api.Utf8)}, api.ErrForm)
	for _, long := range []string{full + " ", strings.Repeat("x", 1<<20)} {
		for _, f := range []api.Front{{}, {Label: "utf-8"}, {Encoding: 8}, {Encoding: -1, Why: 5}, {Why: 9}, {Encoding: 1}, {State: state(1)}, {Wait: "\xff\xfe"}, {Encoding: 1, Why: 1, State: state(4)}, {Encoding: 1, Why: 2, State: api.State{Encoding: 1, Rest: "a"}}} {
			g := f
			f.Label, g.Wait = long, long
			isError(t, f, api.ErrMany)
			isError(t, g, api.ErrMany)
			g.Label = long
			isError(t, g, api.ErrMany)
		}
	}
}

// K2: ErrKind: no encoding, whatever else there is.
func TestCheckOfNoEncoding(t *testing.T) {
	for _, n := range noEncodings() {
		for _, f := range []api.Front{{}, {Why: 2}, {Why: 5}, {Why: -1}, {Why: 1, State: state(n)}, {State: state(1)}, {Why: 1, Wait: "x", State: state(n)}, {Wait: "\xff\xfe"}} {
			f.Encoding = n
			isError(t, f, api.ErrKind)
		}
	}
}

// K2: ErrState: Why and Encoding; each why may go with each encoding.
func TestCheckOfWhy(t *testing.T) {
	for _, why := range []int{-most - 1, -1, 5, 6, 256, 257, 1<<32 + 1, most} {
		for _, n := range append(all(), api.None) {
			for _, f := range []api.Front{{State: state(n)}, {}, {Wait: "x"}, {State: state(api.Latin)}, {State: api.State{Encoding: n, Rest: "xyz"}}} {
				f.Encoding, f.Why = n, why
				isError(t, f, api.ErrState)
			}
		}
	}
	for _, n := range all() {
		isError(t, api.Front{Encoding: n}, api.ErrState)
		isError(t, api.Front{Encoding: n, State: state(n)}, api.ErrState)
		isError(t, api.Front{Encoding: n, State: state(n), Wait: "x"}, api.ErrState)
		for why := api.ByMark; why <= api.ByFallback; why++ {
			isError(t, api.Front{Why: why}, api.ErrState)
			isError(t, api.Front{Why: why, State: state(n)}, api.ErrState)
			isError(t, api.Front{Why: why, Wait: "\xff\xfe"}, api.ErrState)
			for _, name := range []string{"", "no", "latin1"} {
				isFine(t, api.Front{Label: name, Encoding: n, Why: why, State: state(n)})
			}
		}
	}
}

// K2: ErrForm: a state though nothing is chosen; something that waits, or another state, though something is.
func TestCheckOfTheForm(t *testing.T) {
	for _, x := range []api.State{{Encoding: 1}, {Encoding: 8}, {Rest: "x"}, {Signs: 1}, {Signs: -1}, {Fresh: true}, {Stopped: true}} {
		for _, f := range []api.Front{{}, {Label: "utf-8"}, {Wait: "x"}, {Wait: "\xff\xfe"}, {Label: "utf-8", Wait: "abc"}, {Wait: strings.Repeat("x", api.MaxScan)}} {
			f.State = x
			isError(t, f, api.ErrForm)
		}
	}
	for _, n := range all() {
		for _, wait := range []string{"x", "\xef\xbb", "\xff\xfe", strings.Repeat("x", api.MaxText)} {
			for _, x := range []api.State{state(n), {Encoding: n, Rest: "xyz"}, {}} {
				isError(t, api.Front{Encoding: n, Why: 3, Wait: wait, State: x}, api.ErrForm)
			}
		}
		for _, other := range append(append(all(), noEncodings()...), api.None) {
			if other != n {
				isError(t, api.Front{Encoding: n, Why: 3, State: state(other)}, api.ErrForm)
				isError(t, api.Front{Encoding: n, Why: 3, State: api.State{Encoding: other, Rest: "xyz", Signs: 3}}, api.ErrForm)
			}
		}
	}
}

// K2: ErrState: as much waits as is enough: three bytes with a label that finds something, MaxScan with another one, a mark with each.
func TestCheckOfWhatWaits(t *testing.T) {
	scan := strings.Repeat("x", api.MaxScan)
	for _, wait := range []string{"", "a", "ab", "\xef", "\xef\xbb", "\xfe", "\xff", "x\xff", "\xfe\xfe", "\xff\xff", "\xbb\xbf"} {
		for _, l := range append(api.Labels(), api.Label{}, api.Label{Name: "no"}) {
			isFine(t, api.Front{Label: l.Name, Wait: wait})
			isFine(t, api.Front{Label: " " + strings.ToUpper(l.Name) + "\n", Wait: wait})
		}
	}
	for _, wait := range []string{"abc", "\xef\xbbx", "x\xff\xfe", "\xfe\xfe\xff", scan[1:], scan, scan + scan, utf8} {
		for _, l := range api.Labels() {
			isError(t, api.Front{Label: l.Name, Wait: wait}, api.ErrState)
			isError(t, api.Front{Label: " " + strings.ToUpper(l.Name) + "\n", Wait: wait}, api.ErrState)
		}
		for _, name := range noLabels() {
			if len(wait) < api.MaxScan {
				isFine(t, api.Front{Label: name, Wait: wait})
			} else {
				isError(t, api.Front{Label: name, Wait: wait}, api.ErrState)
			}
		}
	}
	for _, m := range marks() {
		for _, name := range []string{"", "no", "utf-8", "latin1"} {
			isError(t, api.Front{Label: name, Wait: m}, api.ErrState)
			isError(t, api.Front{Label: name, Wait: m + "x"}, api.ErrState)
			isError(t, api.Front{Label: name, Wait: m + scan}, api.ErrState)
		}
	}
}

// K2: what the decoder's Check finds, last of all.
func TestCheckOfTheState(t *testing.T) {
	for _, n := range all() {
		for _, rest := range []string{"", "a", "\xe2", "\xe2\x82", "\x1b", "\x1b(", "\xd8\x00", "\x00\xd8\x00", "abc", strings.Repeat("\xe2", api.MaxText+1)} {
			for bits := range 4 {
				for signs := -1; signs <= 3; signs++ {
					x := api.State{Encoding: n, Rest: rest, Signs: signs, Fresh: bits&1 != 0, Stopped: bits&2 != 0}
					f := api.Front{Label: "latin1", Encoding: n, Why: api.ByLabel, State: x}
					if want := stream.Check(x); want != api.OK {
						isError(t, f, want)
					} else {
						isFine(t, f)
					}
				}
			}
		}
	}
}

// checked: Check by the document's words, one by one.
func checked(f api.Front) api.Errno {
	is := func(n int, some []int) bool {
		for _, x := range some {
			if x == n {
				return true
			}
		}
		return false
	}
	finds := false
	for _, l := range api.Labels() {
		finds = finds || strings.EqualFold(strings.Trim(f.Label, " "), l.Name)
	}
	marked := false
	for _, m := range marks() {
		marked = marked || strings.HasPrefix(f.Wait, m)
	}
	enough := len(f.Wait) >= 256 || finds && len(f.Wait) >= 3 || marked
	for _, c := range []struct {
		found bool
		e     api.Errno
	}{
		{len(f.Label) > 3000, api.ErrMany}, {len(f.Wait) > 3000, api.ErrMany},
		{!is(f.Encoding, append(all(), api.None)), api.ErrKind},
		{!is(f.Why, []int{0, 1, 2, 3, 4}), api.ErrState}, {f.Encoding == 0 && f.Why != 0, api.ErrState}, {f.Encoding != 0 && f.Why == 0, api.ErrState},
		{f.Why == 0 && f.State != api.State{}, api.ErrForm}, {f.Why != 0 && f.Wait != "", api.ErrForm}, {f.Why != 0 && f.State.Encoding != f.Encoding, api.ErrForm},
		{f.Why == 0 && enough, api.ErrState},
	} {
		if c.found {
			return c.e
		}
	}
	if f.Why == 0 {
		return api.OK
	}
	return stream.Check(f.State)
}

// K2, P1: fronts of all parts: of several errors the one that is named first.
func TestCheckByTheWords(t *testing.T) {
	long := strings.Repeat("x", api.MaxText+1)
	for _, name := range []string{"", "no", " UTF-8 ", long[1:], long} {
		for _, wait := range []string{"", "a", "abc", "\xef\xbb", "\xef\xbb\xbf", "\xff\xfe", long[:255], long[:256], long[1:], long} {
			for _, n := range append(append(all(), api.None), noEncodings()...) {
				for _, why := range []int{-1, 0, 1, 2, 3, 4, 5} {
					for _, x := range []api.State{{}, state(n), state(1), {Encoding: n, Rest: "abc"}, {Encoding: n, Signs: 2, Fresh: true}, {Encoding: n, Stopped: true}} {
						f := api.Front{Label: name, Encoding: n, Why: why, Wait: wait, State: x}
						if e, want := front.Check(f), checked(f); e != want {
							t.Errorf("Check %.200q: %d, not %d", show(f), e, want)
						}
					}
				}
			}
		}
	}
}
