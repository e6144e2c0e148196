package shift

import "cartouche/api"

// Write code points: their bytes, and escapes among them; false, if one has no byte in any signs. Signs are plain ahead of them and behind them.
func Write(l []int) (string, bool) {
	var b []byte
	now := api.SignsPlain
	for _, point := range l {
		signs, c, ok := choose(now, point)
		if !ok {
			return "", false
		}
		if signs != now {
			b = append(b, escapeTo(signs)...)
			now = signs
		}
		b = append(b, c)
	}
	if now != api.SignsPlain {
		b = append(b, escapeTo(api.SignsPlain)...)
	}
	return string(b), true
}

// choose signs for a code point, and its byte by them: if they will do, those that are now.
func choose(now, point int) (int, byte, bool) {
	for _, signs := range []int{now, api.SignsPlain, api.SignsRoman, api.SignsKana} {
		if b, ok := byteOf(signs, point); ok {
			return signs, b, true
		}
	}
	return 0, 0, false
}
