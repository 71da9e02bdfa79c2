package subst

import (
	"regexp"
	"slices"
	"strconv"
	"strings"
	"testing"

	"dragoman/api"
)

// row is a row of numbers, each below one that is told, that look stray, but are the same in each run.
func row(seed uint64) func(below int) int {
	return func(below int) int {
		seed = seed*6364136223846793005 + 1442695040888963407
		x := seed ^ seed>>29
		return int((x ^ x<<17) >> 1 % uint64(below))
	}
}

// texts are all texts of some bytes, of as many as that at most.
func texts(of string, most int) []string {
	l := []string{""}
	for at := 0; at < len(l); at++ {
		if len(l[at]) < most {
			for i := range len(of) {
				l = append(l, l[at]+of[i:i+1])
			}
		}
	}
	return l
}

// strayText is a text of some bytes.
func strayText(next func(int) int, of string, long int) string {
	s := make([]byte, long)
	for i := range s {
		s[i] = of[next(len(of))]
	}
	return string(s)
}

// strayRow is a row of texts, one at least, of few bytes and of any.
func strayRow(next func(int) int, most int) []string {
	l := make([]string, 1+next(most))
	for i := range l {
		of := "ab&"
		if next(2) == 0 {
			of = allBytes()
		}
		l[i] = strayText(next, of, next(6))
	}
	return l
}

// allBytes is a text of each byte, rising.
func allBytes() string {
	var s [256]byte
	for c := range s {
		s[c] = byte(c)
	}
	return string(s[:])
}

// runes is a text in which each byte is a rune: so Go's own regular expressions go byte by byte.
func runes(s string) string {
	l := make([]rune, len(s))
	for i := range l {
		l[i] = rune(s[i])
	}
	return string(l)
}

// bytesOf is a text of which runes made that one.
func bytesOf(s string) string {
	var l []byte
	for _, r := range s {
		l = append(l, byte(r))
	}
	return string(l)
}

// written is what a replacement's text is made of, as the chapter says.
var written = regexp.MustCompile(`^(?:&|[^&\\/\n]|\\x[0-9A-Fa-f]{2}|\\[]\\[^/.*+?()|{}$-]|\\&)`)

// wantRead is what Read answers.
func wantRead(s string) ([]string, api.Errno) {
	l := []string{""}
	for rest := runes(s); rest != ""; {
		part := written.FindString(rest)
		rest = rest[len(part):]
		c := part
		switch {
		case part == "":
			return nil, api.ErrForm
		case part == "&":
			l = append(l, "")
			continue
		case strings.HasPrefix(part, `\x`):
			n, _ := strconv.ParseUint(part[2:], 16, 8)
			c = string(rune(n))
		case strings.HasPrefix(part, `\`):
			c = part[1:]
		}
		l[len(l)-1] += bytesOf(c)
	}
	return l, api.OK
}

// holdRead holds what Read answers against what it should be.
func holdRead(t *testing.T, s string) (accepted bool) {
	t.Helper()
	l, e := Read(s)
	want, wantE := wantRead(s)
	if !slices.Equal(l, want) || e != wantE {
		t.Fatalf("Read(%q): %q %d, not %q %d", s, l, e, want, wantE)
	}
	return e == api.OK
}

// P7.1: what is written is read.
func TestRead(t *testing.T) {
	for _, x := range []struct {
		s    string
		want []string
	}{
		{"", []string{""}},
		{"a", []string{"a"}},
		{"abc", []string{"abc"}},
		{"&", []string{"", ""}},
		{"&a", []string{"", "a"}},
		{"a&", []string{"a", ""}},
		{"a&b", []string{"a", "b"}},
		{"&&", []string{"", "", ""}},
		{"&&&", []string{"", "", "", ""}},
		{"a&&b", []string{"a", "", "b"}},
		{"&a&b&", []string{"", "a", "b", ""}},
		{"[&]", []string{"[", "]"}},
		{"<& and &>", []string{"<", " and ", ">"}},
		{`\&`, []string{"&"}},
		{`\&\&`, []string{"&&"}},
		{`\&&`, []string{"&", ""}},
		{`&\&`, []string{"", "&"}},
		{`&\&&`, []string{"", "&", ""}},
		{`\\`, []string{`\`}},
		{`\\&`, []string{`\`, ""}},
		{`\\\&`, []string{`\&`}},
		{`\\\\`, []string{`\\`}},
		{`\/`, []string{"/"}},
		{`a\/b`, []string{"a/b"}},
		{`\x2f`, []string{"/"}},
		{`\x2F`, []string{"/"}},
		{`\x0a`, []string{"\n"}},
		{`\x0A&`, []string{"\n", ""}},
		{`\x26`, []string{"&"}},
		{`\x5c&`, []string{`\`, ""}},
		{`\x5c\x26`, []string{`\&`}},
		{`\x000`, []string{"\x000"}},
		{`\xfff`, []string{"\xfff"}},
		{`\xé9`, nil},
		{`\\x2f`, []string{`\x2f`}},
		{`\x2fx`, []string{"/x"}},
		{`\]\[\^\-`, []string{"][^-"}},
		{`\.\*\+\?\(\)\|\{\}\$`, []string{".*+?()|{}$"}},
		{`]^-.*+?()|{}$`, []string{"]^-.*+?()|{}$"}},
		{"\x00\x7f\x80\xff", []string{"\x00\x7f\x80\xff"}},
		{"é&é", []string{"é", "é"}},
		{`\x80&\xff`, []string{"\x80", "\xff"}},
		{"\r\t \"'`", []string{"\r\t \"'`"}},
		{`\`, nil},
		{`a\`, nil},
		{`&\`, nil},
		{`a&b\`, nil},
		{`\\\`, nil},
		{`\&\`, nil},
		{`\q`, nil},
		{`\n`, nil},
		{`\1`, nil},
		{`\"`, nil},
		{`\ `, nil},
		{`\é`, nil},
		{"\\\n", nil},
		{"\\\x00", nil},
		{"\\\xff", nil},
		{`\X41`, nil},
		{`\x`, nil},
		{`\x4`, nil},
		{`\x4g`, nil},
		{`\xg4`, nil},
		{`\x4&`, nil},
		{`\x&4`, nil},
		{`\x-1`, nil},
		{`\x+1`, nil},
		{`\x 1`, nil},
		{"/", nil},
		{"a/", nil},
		{"/a", nil},
		{"a&/", nil},
		{`\\/`, nil},
		{`\x2f/`, nil},
		{"\n", nil},
		{"a\n", nil},
		{"\na", nil},
		{"&\n&", nil},
		{"a\r\n", nil},
	} {
		e := api.OK
		if x.want == nil {
			e = api.ErrForm
		}
		if got, gotE := Read(x.s); !slices.Equal(got, x.want) || gotE != e || e != api.OK && got != nil {
			t.Errorf("Read(%q): %q %d, not %q %d", x.s, got, gotE, x.want, e)
		}
	}
}

// P7.1: each byte as it is, behind \, behind \x, and each two bytes behind \x.
func TestReadBytes(t *testing.T) {
	bytes := allBytes()
	var alone, behind, numbered int
	for i := range len(bytes) {
		c := bytes[i : i+1]
		if holdRead(t, c) {
			alone++
		}
		if holdRead(t, `\`+c) {
			behind++
		}
		holdRead(t, "a"+c+"&")
		holdRead(t, `\`+c+"&")
		holdRead(t, `&\x4`+c)
		for k := range len(bytes) {
			if holdRead(t, `\x`+c+bytes[k:k+1]) {
				numbered++
			}
		}
	}
	// All but /, 10 and \; the 16 signs behind \ and &; two of 22 figures.
	if alone != 253 || behind != 17 || numbered != 22*22 {
		t.Errorf("accepted: %d alone, %d behind \\, %d behind \\x", alone, behind, numbered)
	}
}

// P7.1: all short texts.
func TestReadShort(t *testing.T) {
	accepted := 0
	for _, s := range texts("&\\/\nx2fa]q\x80", 5) {
		if holdRead(t, s) {
			accepted++
		}
	}
	if accepted < 30000 {
		t.Errorf("only %d accepted", accepted)
	}
}

// P7.1: stray texts.
func TestReadStray(t *testing.T) {
	next := row(7)
	pieces := []string{"&", "&", "a", "b c", "]", "-", "\x80", "é", `\&`, `\\`, `\/`, `\x0a`, `\xfF`, `\$`, `\-`, "/", "\n", `\q`, `\x4`, `\`}
	accepted := 0
	for range 40000 {
		s := ""
		// What is wrong is the rarer one: or else hardly any would be right.
		of := 15 + next(2)*next(6)
		for range next(12) {
			s += pieces[next(of)]
		}
		if holdRead(t, s) {
			accepted++
		}
	}
	if accepted < 10000 || accepted > 39000 {
		t.Errorf("%d accepted", accepted)
	}
}

// P7.1: how a replacement is written.
func TestText(t *testing.T) {
	for _, x := range []struct {
		l    []string
		want string
	}{
		{nil, ""},
		{[]string{}, ""},
		{[]string{""}, ""},
		{[]string{"", ""}, "&"},
		{[]string{"", "", ""}, "&&"},
		{[]string{"a"}, "a"},
		{[]string{"a", ""}, "a&"},
		{[]string{"", "a"}, "&a"},
		{[]string{"a", "b", "c"}, "a&b&c"},
		{[]string{"[", "]"}, `\x5b&\x5d`},
		{[]string{"a b", "_9Z"}, "a b&_9Z"},
		{[]string{"&"}, `\x26`},
		{[]string{"&", "&"}, `\x26&\x26`},
		{[]string{`\&`}, `\x5c\x26`},
		{[]string{"a/b\n"}, `a\x2fb\x0a`},
		{[]string{"\t-.,'\""}, `\x09\x2d\x2e\x2c\x27\x22`},
		{[]string{"\x00", "\x7f\x80\xff"}, `\x00&\x7f\x80\xff`},
		{[]string{"é"}, `\xc3\xa9`},
	} {
		if got := Text(x.l); got != x.want {
			t.Errorf("Text(%q): %q, not %q", x.l, got, x.want)
		}
	}
}

// P7.1: each byte, as it is written.
func TestTextBytes(t *testing.T) {
	of := "0123456789 ABCDEFGHIJKLMNOPQRSTUVWXYZ_abcdefghijklmnopqrstuvwxyz"
	want := ""
	for c := range 256 {
		s := string([]byte{byte(c)})
		w := s
		if !strings.Contains(of, s) {
			w = `\x` + strconv.FormatInt(int64(c)+256, 16)[1:]
		}
		want += w
		if got := Text([]string{s}); got != w {
			t.Errorf("Text of %d: %q, not %q", c, got, w)
		}
		if got := Text([]string{s, s + "a"}); got != w+"&"+w+"a" {
			t.Errorf("Text of two of %d: %q", c, got)
		}
	}
	if got := Text([]string{allBytes()}); got != want {
		t.Errorf("Text of all bytes: %q", got)
	}
}

// P7.1: what stands between the texts.
func TestPut(t *testing.T) {
	for _, x := range []struct {
		l    []string
		what string
		want string
	}{
		{nil, "", ""},
		{nil, "x", ""},
		{[]string{}, "x", ""},
		{[]string{""}, "", ""},
		{[]string{""}, "x", ""},
		{[]string{"a"}, "x", "a"},
		{[]string{"a"}, "", "a"},
		{[]string{"", ""}, "x", "x"},
		{[]string{"", ""}, "", ""},
		{[]string{"", "", ""}, "xy", "xyxy"},
		{[]string{"[", "]"}, "x", "[x]"},
		{[]string{"a", "b"}, "", "ab"},
		{[]string{"a", "", "b"}, "", "ab"},
		{[]string{"a", "", "b"}, "-", "a--b"},
		{[]string{"", "b", ""}, "x", "xbx"},
		{[]string{"a", "b", "c"}, "&", "a&b&c"},
		{[]string{"&", `\`}, `\&`, `&\&\`},
		{[]string{"a\n", "/"}, "\x00\xff", "a\n\x00\xff/"},
		{[]string{"\xc3", ""}, "\xa9", "é"},
	} {
		if got := Put(x.l, x.what); got != x.want {
			t.Errorf("Put(%q, %q): %q, not %q", x.l, x.what, got, x.want)
		}
	}
	next := row(11)
	for range 5000 {
		l, what := strayRow(next, 6), strayText(next, "xy", next(4))
		if got, want := Put(l, what), wantPut(l, what); got != want {
			t.Fatalf("Put(%q, %q): %q, not %q", l, what, got, want)
		}
	}
}

// wantPut is what Put answers.
func wantPut(l []string, what string) string {
	s := ""
	for i := len(l) - 1; i >= 0; i-- {
		if i < len(l)-1 {
			s = what + s
		}
		s = l[i] + s
	}
	return s
}
