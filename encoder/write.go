package encoder

import (
	"slices"
	"strconv"

	"cartouche/api"
	"cartouche/kana"
	"cartouche/shift"
	"cartouche/single"
)

// write scalars in an output that has not all of them.
func write(output, mode int, l []int) (string, api.Errno) {
	has := known(output)
	var points []int
	put := func(point int) { points = append(points, point) }
	for _, point := range l {
		switch {
		case has(point):
			put(point)
		case mode == api.ModeTold:
			putNumber(point, put)
		default:
			return "", api.ErrNone
		}
	}
	return bytesOf(output, points), api.OK
}

// putNumber of a code point: signs that each output has.
func putNumber(point int, put func(point int)) {
	for _, c := range []byte("&#" + strconv.Itoa(point) + ";") {
		put(int(c))
	}
}

// known: what says which scalars an output has.
func known(output int) func(point int) bool {
	switch output {
	case api.Latin, api.User:
		// All of them at once: who asks for many does not wait for Tells of each.
		points, _ := single.Decode(output == api.User, eachByte())
		return func(point int) bool { return slices.Contains(points, point) }
	case api.Kana:
		return func(point int) bool {
			_, e := kana.Encode([]int{point})
			return e == api.OK
		}
	}
	return func(int) bool { return true }
}

// eachByte that there is.
func eachByte() string {
	var b []byte
	for c := range 256 {
		b = append(b, byte(c))
	}
	return string(b)
}

// bytesOf code points that an output has. With numbers among them they may be more than MaxText.
func bytesOf(output int, l []int) string {
	if output == api.Kana {
		s, _ := shift.Write(l) // which signs are now goes on from end to end, so these are never cut
		return s
	}
	var b []byte
	for at := 0; at < len(l); at += api.MaxText {
		s, _ := single.Encode(output == api.User, l[at:min(at+api.MaxText, len(l))])
		b = append(b, s...)
	}
	return string(b)
}
