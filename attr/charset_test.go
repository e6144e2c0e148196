package attr_test

import (
	"strings"
	"testing"

	"cartouche/api"
	"cartouche/attr"
	"cartouche/label"
)

// isCharset: what Charset answers of a text.
func isCharset(t *testing.T, s string, want int) {
	t.Helper()
	if got, e := attr.Charset(s); got != want || e != api.OK {
		t.Errorf("Charset %q: %d %d, not %d", s, got, e, want)
	}
}

// I2: each label, however it is written, and whatever stands ahead of it.
func TestEachLabel(t *testing.T) {
	for _, l := range api.Labels() {
		for _, name := range []string{l.Name, strings.ToUpper(l.Name), strings.ToUpper(l.Name[:1]) + l.Name[1:]} {
			for _, ahead := range []string{"", "text/html; ", "text/html;", "x", "=", "\xff\x00", "'", "charset ", "charset", "charset;charset", "CharSet x "} {
				for _, s := range []string{
					"charset=" + name, "CHARSET=" + name, "chArsEt = " + name, "charset" + white + "=" + white + name,
					"charset=" + name + ";", "charset=" + name + " ", "charset=" + name + ";x", "charset=" + name + "\tx", "charset= " + name + " ; charset=no",
					"charset='" + name + "'", `charset="` + name + `"`, `charset = "` + name + `"x`, "charset='" + white + name + " 'x", "charset='" + name + "' charset=no",
				} {
					isCharset(t, ahead+s, l.Encoding)
				}
			}
		}
	}
}

// I2: where no = comes the next charset is looked for; where one comes no other is.
func TestWhichCharset(t *testing.T) {
	for _, c := range []struct {
		s    string
		want int
	}{
		{"charset", 0}, {"charset ", 0}, {"charset utf-8", 0}, {"charset:utf-8", 0}, {"charset; =utf-8", 0}, {"charset'='utf-8", 0},
		{"charset charset=utf-8", api.Utf8}, {"charsetcharset=utf-8", api.Utf8}, {"charset x charset = utf-8", api.Utf8}, {"charset\t\ncharset\fcharset=utf-8", api.Utf8},
		{"charset=no charset=utf-8", 0}, {"charset=no;charset=utf-8", 0}, {"charset=;charset=utf-8", 0}, {"charset= ;charset=utf-8", 0}, {"charset='';charset=utf-8", 0}, {"charset=charset=utf-8", 0},
		{"charset=utf-8 charset=latin1", api.Utf8}, {"charset x charset=utf-8; charset=latin1", api.Utf8}, {"charset=latin1;charset=utf-8", api.Latin},
		{"charse=utf-8", 0}, {"harset=utf-8", 0}, {"char set=utf-8", 0}, {"charset_=utf-8", 0}, {"charsets=utf-8", 0}, {"mycharset=utf-8", api.Utf8}, {"charcharset=utf-8", api.Utf8}, {"=charset=utf-8", api.Utf8},
		{"char\u017fet=utf-8", 0}, {"ch\x00arset=utf-8", 0}, {"charset\v=utf-8", 0}, {"charset\x00=utf-8", 0}, {"charset\u00a0=utf-8", 0}, {"charset/=utf-8", 0},
		{"utf-8", 0}, {"=utf-8", 0}, {"", 0}, {" ", 0}, {"text/html", 0},
	} {
		isCharset(t, c.s, c.want)
	}
}

// I2: how far a label goes, with quotes and without them.
func TestWhichLabel(t *testing.T) {
	for _, c := range []struct {
		s    string
		want int
	}{
		{"charset=", 0}, {"charset= ", 0}, {"charset=;", 0}, {"charset=;utf-8", 0}, {"charset= ;utf-8", 0}, {"charset==utf-8", 0}, {"charset=no", 0},
		{`charset="utf-8`, 0}, {"charset='utf-8", 0}, {`charset='utf-8"`, 0}, {`charset="utf-8'`, 0}, {`charset="utf-8 ;`, 0}, {`charset="`, 0}, {"charset='", 0}, {`charset="utf-8; charset=latin1`, 0},
		{`charset=""`, 0}, {"charset=''", 0}, {`charset=""utf-8`, 0}, {`charset="'utf-8'"`, 0}, {`charset="utf-8;"`, 0}, {`charset="utf-8;x"`, 0}, {`charset="utf-8 x"`, 0},
		{`charset=utf-8"`, 0}, {"charset=utf-8'", 0}, {`charset=x"utf-8"`, 0}, {"charset=utf-8>", 0}, {"charset=utf-8/", 0}, {"charset=utf-8,x", 0}, {"charset=utf-8\v", 0}, {"charset=utf-8\x00", 0}, {"charset=\vutf-8", 0},
		{`charset="latin1"utf-8`, api.Latin}, {`charset='latin1"'`, 0}, {`charset="utf-8"';`, api.Utf8}, {"charset=utf-8;\"", api.Utf8}, {"charset=utf-8 '", api.Utf8},
		{"charset=utf-16", api.Utf16l}, {"charset='UTF-16BE'", api.Utf16b}, {"charset=x-user-defined", api.User}, {"charset=replacement;", api.Stop}, // as they are: nothing stands for them here
	} {
		isCharset(t, c.s, c.want)
	}
}

// I2: each byte behind a charset, behind its =, in a label, and behind it.
func TestEachByteAtACharset(t *testing.T) {
	for c := range 256 {
		b := one(c)
		latin := func(ok bool) int {
			if ok {
				return api.Latin
			}
			return api.None
		}
		want, end := latin(isWhite(c)), latin(isWhite(c) || c == ';')
		isCharset(t, "charset"+b+b+"=latin1", want)
		isCharset(t, "charset="+b+b+"latin1", want)
		isCharset(t, "charset=latin1"+b, end)
		isCharset(t, "charset=latin1"+b+"x", end)
		isCharset(t, "charset=lat"+b+"in1", api.None)
		isCharset(t, "charset='latin1"+b+"'", latin(isWhite(c) || c == '\''))
		isCharset(t, `charset="`+b+`latin1"`, want)
		isCharset(t, b+"charset=latin1", api.Latin)
	}
}

// I2: each text of a few of the pieces that count, by patterns.
func TestCharsetAgainstPatterns(t *testing.T) {
	p := pattern(`[cC][hH][aA][rR][sS][eE][tT][W]*=[W]*(?:"([^"]*)"|'([^']*)'|["']|([^W;]*))`)
	each([]string{"charset", "ChArSeT", "=", " ", ";", "'", `"`, "utf8"}, 5, func(s string) {
		want := api.None
		if m := p.FindStringSubmatch(s); m != nil {
			want, _ = label.Find(m[1] + m[2] + m[3])
		}
		isCharset(t, s, want)
	})
}

// I2, P1: a text of MaxText bytes is not too long, wherever the label stands.
func TestLongestCharset(t *testing.T) {
	const told = "charset=utf-8"
	pad := strings.Repeat(" ", api.MaxText-len(told))
	for _, s := range []string{told + pad, pad + told, strings.Replace(told, "=", "="+pad, 1), strings.Replace(told, "=", pad+"=", 1)} {
		isCharset(t, s, api.Utf8)
		for _, long := range []string{s + " ", " " + s, s + strings.Repeat("x", 1<<20)} {
			if got, e := attr.Charset(long); got != api.None || e != api.ErrMany {
				t.Errorf("Charset of %d bytes: %d %d", len(long), got, e)
			}
		}
	}
	isCharset(t, strings.Repeat("charset", api.MaxText/7), api.None)
	isCharset(t, "charset='"+strings.Repeat("a", api.MaxText-9), api.None)
	if got, e := attr.Charset(strings.Repeat("charset", 1<<16)); got != api.None || e != api.ErrMany {
		t.Errorf("Charset: %d %d", got, e)
	}
}
