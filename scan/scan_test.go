package scan_test

import (
	"regexp"
	"strings"
	"testing"
	"unsafe"

	"cartouche/api"
	"cartouche/attr"
	"cartouche/scan"
)

const told = "<meta charset=latin1>"

// isScan: what Scan answers of a text.
func isScan(t *testing.T, s string, want int) {
	t.Helper()
	if got, e := scan.Scan(s); got != want || e != api.OK {
		t.Errorf("Scan %.300q: %d %d, not %d", s, got, e, want)
	}
}

// isPassed: a thing is passed by, and nothing behind it.
func isPassed(t *testing.T, s string) {
	t.Helper()
	isScan(t, s, api.None)
	isScan(t, s+told, api.Latin)
	isScan(t, s+" "+told+"<meta charset=utf-8>", api.Latin)
	isScan(t, s+s+told, api.Latin)
}

// isEndless: a thing has no end: whatever comes behind is its own.
func isEndless(t *testing.T, s string) {
	t.Helper()
	isScan(t, s, api.None)
	isScan(t, "a > "+s+" x", api.None)
	isScan(t, "<p>"+s, api.None)
}

// one byte, as a text.
func one(c int) string {
	return string([]byte{byte(c)})
}

// J2: each label, in each way that a meta may tell it.
func TestScanOfEachLabel(t *testing.T) {
	for _, l := range api.Labels() {
		for _, s := range []string{
			"<meta charset=" + l.Name + ">", "<META CHARSET='" + strings.ToUpper(l.Name) + "'>", "<mEtA/charset = \"" + l.Name + "\" />", "<meta\tx=y\ncharset=" + l.Name + " z>",
			"<meta charset=" + l.Name, "<meta charset=" + l.Name + " ", "<meta charset='" + l.Name + "'", "<meta//charset='" + l.Name + "'x",
			"<meta http-equiv=Content-Type content='text/html; charset=" + l.Name + "'>", "<meta content=charset=" + l.Name + " HTTP-EQUIV='CONTENT-TYPE'>",
		} {
			for _, ahead := range []string{"", " ", "x", "<!doctype html><html><head>", "\xef\xbb\xbf", "\x00\xff", "<meta>", "<meta name=x>", "<", "<<", "< ", ">"} {
				isScan(t, ahead+s, instead(l.Encoding))
			}
		}
	}
}

// J2: the first meta that tells an encoding; those that tell none are passed.
func TestScanOfTheFirst(t *testing.T) {
	isScan(t, told+"<meta charset=utf-8>", api.Latin)
	isScan(t, "<meta charset=utf-8>"+told, api.Utf8)
	isScan(t, "<meta charset=utf-8 charset=latin1>", api.Utf8)
	isScan(t, "<meta charset=utf-16>"+told, api.Utf8)
	isScan(t, "<meta charset=x-user-defined><meta charset=utf-8>", api.Latin)
	isScan(t, "<meta = charset=utf-8>", api.Utf8) // the = is a name's beginning: attributes are read from behind <meta on
	isScan(t, "<meta ='x charset=utf-8>", api.Utf8)
	isScan(t, "<meta/= charset=utf-8>", api.Utf8)
	for _, s := range []string{
		"<meta charset=no>", "<meta charset=no charset=utf-8>", "<meta charset>", "<meta charset=>", "<meta charset=''>", "<meta >", "<meta/>", "<meta / />", "<meta x='>'>", "<meta name='charset=utf-8'>",
		"<meta content='text/html; charset=utf-8'>", "<meta content='charset=utf-8' http-equiv=refresh>", "<meta http-equiv=content-type content=utf-8>", "<meta charset=no content='charset=utf-8' http-equiv=content-type>",
		"<meta x=charset=utf-8>", "<meta =charset=utf-8>", "<meta charset =\n= utf-8>", "<meta charset=utf-8/>", "<meta charset=\"'utf-8'\">",
	} {
		isPassed(t, s)
	}
}

// J2: a comment ends where a --> is, which may have the -- of its beginning.
func TestScanOfComments(t *testing.T) {
	for _, s := range []string{
		"<!-->", "<!--->", "<!---->", "<!----->", "<!-- -->", "<!-- x -->", "<!-->-->", "<!--->-->", "<!-- > -->", "<!-- -- > -->", "<!-- -> -->", "<!---- -->", "<!--<!-- -->",
		"<!-- <meta charset=utf-8> -->", "<!--<meta charset=utf-8>-->", "<!-- ' -->", "<!-- <p a=' -->", "<!--\x00\xff\n-->", "<!-- --!> -->",
	} {
		isPassed(t, s)
	}
	for _, s := range []string{"<!--", "<!---", "<!----", "<!-- <meta charset=utf-8>", "<!-- --<meta charset=utf-8>", "<!-- -><meta charset=utf-8>", "<!-- -- ><meta charset=utf-8>", "<!-- --!><meta charset=utf-8>", "<!--x->", "<!--x>" + told} {
		isEndless(t, s)
	}
	isScan(t, "<!--><meta charset=utf-8>-->"+told, api.Utf8)
	isScan(t, "<!--->x<meta charset=utf-8>-->"+told, api.Utf8)
	isScan(t, "<!-- --><meta charset=utf-8>-->"+told, api.Utf8)
	isScan(t, "<!- <meta charset=utf-8> -->"+told, api.Latin)
	isScan(t, "<! -- > <meta charset=utf-8> -->"+told, api.Utf8)
	isScan(t, "<-- <meta charset=utf-8> -->"+told, api.Utf8)
}

// J2: tags, and such as end one, go as far as their attributes do: a > between quotes does not end them.
func TestScanOfTags(t *testing.T) {
	for _, s := range []string{
		"<p>", "</p>", "<P>", "</P>", "<a b=c>", "</a b='>'>", "<a b='>'>", "<a b=\">\">", "<a b='<meta charset=utf-8>'>", "<z <meta charset=utf-8>", "</z <meta charset=utf-8>", "<p\t>", "<p / >", "<p/>",
		"<p/a='>", "<p'>", "<p\">", "<p='>", "<p a='\"'>", "<p a=b'>", "<p '>", "<p =b'>", "<p\v'>", "<p a>", "<p <!-- >", "<pmeta charset=utf-8>",
		"<metax charset=utf-8>", "<meta>", "<META>", "<meta\vcharset=utf-8>", "<meta\x00 charset=utf-8>", "<meta=charset=utf-8>", "<meta<meta charset=utf-8>", "<met charset=utf-8>", "<meta-charset=utf-8>", "<metacharset=utf-8>", "</meta charset=utf-8>", "</meta/charset=utf-8>", "<m\u00e9ta charset=utf-8>",
	} {
		isPassed(t, s)
	}
	for _, s := range []string{
		"<p", "</p", "<p ", "<meta", "<meta ", "<meta/", "<metax", "<p a", "<p a=", "<p a=b", "<p a='", "<p a='>" + told, "<p a=\"'>" + told, "</p a='>" + told, "<meta charset='utf-8>", "<meta charset=\"utf-8'>", "<meta x='" + told, "<p " + told[:len(told)-1], "<meta charset=no",
	} {
		isEndless(t, s)
	}
	isScan(t, "<meta charset=utf-8 x='>", api.Utf8) // what was told ahead of the quote is told
	isScan(t, "<p'><meta charset=utf-8>'>"+told, api.Utf8)
	isScan(t, "<p '><meta charset=utf-8>'>"+told, api.Utf8)
	isScan(t, "<p a='><meta charset=utf-8>'>"+told, api.Latin)
}

// J2: <!, </ and <? go to the first >, between quotes too; another < is one byte.
func TestScanOfOthers(t *testing.T) {
	for _, s := range []string{
		"<!>", "</>", "<?>", "<!doctype html>", "<! <meta charset=utf-8>", "<? <meta charset=utf-8>", "</ <meta charset=utf-8>", "</1 <meta charset=utf-8>", "<?xml encoding='utf-8'?>", "<! '>", "<? \">", "</ '>", "<!- >", "<!-a->", "</ p '>", "<//p '>", "</<p>", "<?<p>", "<!<p>",
	} {
		isPassed(t, s)
	}
	for _, s := range []string{"<!", "</", "<?", "<!-", "<!d", "<?x", "</1", "</ x", "<! <meta charset=utf-8", "</ <meta charset=utf-8", "<? <meta charset=utf-8"} {
		isEndless(t, s)
	}
	isScan(t, "<! '><meta charset=utf-8>'>"+told, api.Utf8)
	isScan(t, "<? '><meta charset=utf-8>'>"+told, api.Utf8)
	isScan(t, "</ a='><meta charset=utf-8>'>"+told, api.Utf8)
	isScan(t, "</p a='><meta charset=utf-8>'>"+told, api.Latin)
	for _, s := range []string{"", "a", ">", "-->", "meta charset=utf-8>", "<", "<<", "< meta charset=utf-8>", "<1 a='>", "<1", "<=", "<'", "a < b '", "<-", "<\x00", "<\xff", "< /p a='", "&lt;meta charset=utf-8>", "< !--"} {
		isPassed(t, s)
	}
}

// J2: each byte behind a <, and behind a </: letters begin a tag, some others go to the first >, and all others are passed by themselves.
func TestScanOfEachByte(t *testing.T) {
	for c := range 256 {
		b := one(c)
		letter := c >= 'a' && c <= 'z' || c >= 'A' && c <= 'Z'
		quotes, plain := api.Utf8, api.Utf8 // what is told first, if something goes to the first >, or is one byte
		if letter {
			quotes = api.Latin
		}
		if letter || c == '!' || c == '?' || c == '/' {
			plain = api.Latin
		}
		isScan(t, "<"+b+" a='><meta charset=utf-8>'>"+told, quotes)
		isScan(t, "</"+b+" a='><meta charset=utf-8>'>"+told, quotes)
		isScan(t, "<"+b+" <meta charset=utf-8>"+told, plain)
		want := api.Latin
		if c == '>' {
			want = api.Utf8
		}
		isScan(t, "</"+b+" <meta charset=utf-8>"+told, want)
		want = api.Latin
		if strings.Contains(white+"/", b) {
			want = api.Utf8
		}
		isScan(t, "<meta"+b+"charset=utf-8>"+told, want)
	}
}

// steps of Scan, as patterns: W are white bytes.
type steps struct{ comment, meta, tag, other *regexp.Regexp }

func newSteps() steps {
	pattern := func(s string) *regexp.Regexp { return regexp.MustCompile(strings.ReplaceAll(s, "W", `\t\n\f\r `)) }
	return steps{pattern(`^<!--(?:>|->|(?s:.*?)-->)`), pattern(`^<[mM][eE][tT][aA][W/]`), pattern(`^</?[a-zA-Z][^W>]*`), pattern(`^<[!/?][^>]*>`)}
}

// scan a short text, as Scan should.
func (p steps) scan(s string) int {
	if s == "" {
		return api.None
	}
	if m := p.comment.FindString(s); m != "" || strings.HasPrefix(s, "<!--") {
		return p.behind(s, m)
	}
	tag := p.meta.FindString(s)
	if tag != "" {
		tag = tag[:len(tag)-1]
	} else {
		tag = p.tag.FindString(s)
	}
	if tag != "" {
		l, end, _ := attr.All(s, len(tag))
		if n, _ := scan.Meta(l); n != api.None && p.meta.MatchString(s) {
			return n
		}
		return p.scan(strings.TrimPrefix(s[end:], ">"))
	}
	if m := p.other.FindString(s); m != "" || len(s) > 1 && s[0] == '<' && strings.Contains("!/?", s[1:2]) {
		return p.behind(s, m)
	}
	return p.scan(s[1:])
}

// behind a thing, if it has an end.
func (p steps) behind(s, thing string) int {
	if thing == "" {
		return api.None
	}
	return p.scan(s[len(thing):])
}

// J2: each text of a few pieces that count, by patterns.
func TestScanAgainstPatterns(t *testing.T) {
	p := newSteps()
	some := []string{"<", "!", "--", "-", ">", "/", "?", "<Meta", " ", "charset=utf8", "charset='latin1", "'", "p"}
	var grow func(s string, left int)
	grow = func(s string, left int) {
		isScan(t, s, p.scan(s))
		isScan(t, s+told, p.scan(s+told))
		for i := 0; i < len(some) && left > 0; i++ {
			grow(s+some[i], left-1)
		}
	}
	grow("", 4)
	for _, ahead := range []string{"<!--", "<meta", "<p", "</p"} {
		grow(ahead, 4)
	}
}

// J2, J3: a meta whose label lies ahead of MaxScan is seen, though its end is not; one byte further on it is not.
func TestAcrossMaxScan(t *testing.T) {
	for _, s := range []string{"<meta charset=utf-8", "<meta charset='utf-8'", "<meta x charset = \"utf-8\"", "<meta content=charset=utf-8 http-equiv=content-type"} {
		for n := range api.MaxScan + 50 {
			want := api.None
			if n+len(s) <= api.MaxScan {
				want = api.Utf8
			}
			isScan(t, strings.Repeat("x", n)+s, want)
			isScan(t, strings.Repeat("x", n)+s+">"+told, want)
			isScan(t, strings.Repeat("x", n)+s+" x='"+strings.Repeat("y", api.MaxScan), want)
		}
	}
	// A label that is cut is what is left of it.
	pad := strings.Repeat("x", api.MaxScan-len("<meta charset=latin1"))
	isScan(t, pad+"<meta charset=latin15>", api.Latin)
	isScan(t, pad[1:]+"<meta charset=latin15>", api.None)
	isScan(t, pad[1:]+"<meta charset=latin1 charset=utf-8>", api.Latin)
}

// J2: what begins ahead of MaxScan and ends behind it has no end.
func TestEndsBehindMaxScan(t *testing.T) {
	for _, c := range []struct{ begin, end string }{{"<!--", "-->"}, {"<p a='", "'>"}, {"</p a=\"", "\">"}, {"<!", ">"}, {"<?", ">"}, {"</", ">"}, {"<meta x='", "'>"}, {"<p ", ">"}} {
		for n := range api.MaxScan {
			s := c.begin + strings.Repeat("x", n) + c.end + told
			want := api.None
			if len(s)-1 <= api.MaxScan {
				want = api.Latin
			}
			isScan(t, s, want)
		}
	}
}

// J3: what is told behind MaxScan bytes is not seen, whatever it is, and whatever stands ahead.
func TestBehindMaxScan(t *testing.T) {
	behind := []string{"", "x", ">", "'>", "\">", "-->", "5", "8", " charset=utf-8>", told, "-->" + told, "'>" + told, ">" + told, strings.Repeat(told, 100)}
	for _, ahead := range []string{"x", " ", "<", "<!--", "<p a='", "<p ", "<!", "<meta ", "<meta x='", "<meta charset=", "<meta charset='", told + "<p a='", "-", "<meta charset=latin", "<meta charset=utf-8 "} {
		for _, fill := range []string{"x", " ", "-", ">", "<", "/", "="} {
			s := ahead + strings.Repeat(fill, api.MaxScan)
			for _, end := range []string{"", "<meta charset=utf-8", "<meta charset=latin1", "<meta charset=utf-", "<met", "<!-", "<!--", "--", "<p a='", "<meta charset"} {
				whole := s[:api.MaxScan-len(end)] + end
				want, e := scan.Scan(whole)
				if e != api.OK {
					t.Fatalf("Scan %q: %d", whole, e)
				}
				for _, b := range behind {
					isScan(t, whole+b, want)
				}
			}
		}
	}
	isScan(t, strings.Repeat("x", api.MaxScan)+told, api.None)
	isScan(t, strings.Repeat(" ", api.MaxScan-1)+told, api.None)
}

// J2, P1: a text of MaxText bytes is not too long, one more byte is, whatever its beginning tells.
func TestLongest(t *testing.T) {
	for _, c := range []struct {
		ahead string
		want  int
	}{{told, api.Latin}, {"", api.None}, {"<!--", api.None}, {"<p a='", api.None}} {
		s := c.ahead + strings.Repeat("x", api.MaxText-len(c.ahead))
		isScan(t, s[:api.MaxText-1], c.want)
		isScan(t, s, c.want)
		for _, long := range []string{s + "x", " " + s, s + strings.Repeat("x", 1<<20)} {
			if got, e := scan.Scan(long); got != api.None || e != api.ErrMany {
				t.Errorf("Scan of %d bytes: %d %d", len(long), got, e)
			}
		}
	}
	for _, s := range []string{"<", "<p", "<!", "</", "<meta ", "<!--", "<p a='", "=", "<meta charset=no>", "<a b='>'"} {
		isScan(t, strings.Repeat(s, api.MaxText/len(s)), api.None)
	}
}

// P2, P3: a text of bytes that change later is not kept, and a call answers the same again, whatever was asked meanwhile.
func TestScanAgain(t *testing.T) {
	b := []byte("<meta charset=latin1>")
	s := unsafe.String(&b[0], len(b))
	for range 3 {
		isScan(t, s, api.Latin)
		copy(b[14:], "utf-8 ")
		isScan(t, s, api.Utf8)
		isScan(t, "<!--", api.None)
		isScan(t, "<meta charset=iso-2022-jp>", api.Kana)
		scan.Scan(strings.Repeat("x", api.MaxText+1))
		scan.Meta([]api.Attr{charset("replacement")})
		isScan(t, "x", api.None)
		copy(b[14:], "latin1")
	}
}
