package scan

import (
	"math/big"
	"regexp"
	"slices"
	"strings"
	"testing"
	"unicode/utf8"

	"dragoman/api"
	"dragoman/regex"
)

// A second reading of the chapter: Go's own regular expressions tell the longest token of each kind, numbers are of any size, and what is wrong is told of all at once.

// runes is a text in which each byte is a rune: so Go's own regular expressions go byte by byte.
func runes(s string) string {
	l := make([]rune, len(s))
	for i := range l {
		l[i] = rune(s[i])
	}
	return string(l)
}

// bytesOf is a text of which runes made that one.
func bytesOf(s string) string {
	var l []byte
	for _, r := range s {
		l = append(l, byte(r))
	}
	return string(l)
}

// ahead are regular expressions that stand at the beginning, as long as can be.
func ahead(s string) *regexp.Regexp {
	re := regexp.MustCompile(`^(?s:` + s + `)`)
	re.Longest()
	return re
}

// oneOf is a regular expression of some texts.
func oneOf(s string) string {
	l := strings.Fields(s)
	for i := range l {
		l[i] = regexp.QuoteMeta(l[i])
	}
	return strings.Join(l, "|")
}

var (
	aheadStep = ahead("[ \t]+|#[^\n]*")
	aheadNum  = ahead(`[0-9]+(\.[0-9]+)?`)
	aheadStr  = ahead(`"([^"\\` + "\n" + `]|\\["\\/]|\\x([1-9a-fA-F][0-9a-fA-F]|0[0-9b-fB-F]))*"`)
	aheadRe   = ahead(`/([^/\\` + "\n" + `]|\\[^` + "\n" + `])*/`)
	aheadName = ahead("[A-Za-z_][A-Za-z0-9_]*")
	aheadKey  = regexp.MustCompile("^(" + oneOf(wantKeys) + ")$")
	aheadMark = ahead(oneOf(wantMarks))
	behindOne = regexp.MustCompile(`\\(x..|.)`)
)

// secondNumber is the number of a numeral, and whether it fits.
func secondNumber(s string) (api.Dec, bool) {
	whole, rest, _ := strings.Cut(s, ".")
	n, _ := new(big.Int).SetString(whole+(rest + "000000")[:6], 10)
	return n.Int64(), n.IsInt64()
}

// secondValue is what is meant by what stands between double quotes.
func secondValue(s string) string {
	return bytesOf(behindOne.ReplaceAllStringFunc(s, func(s string) string {
		if len(s) == 2 {
			return s[1:]
		}
		n, _ := new(big.Int).SetString(s[2:], 16)
		return string(rune(n.Int64()))
	}))
}

// secondToken is the token that a text begins with, in runes, and its text: none, if no token stands.
func secondToken(s string, operand bool) (api.Token, string, api.Errno) {
	if m := aheadStr.FindString(s); m != "" {
		return api.Token{Kind: api.TStr, Text: secondValue(m[1 : len(m)-1])}, m, api.OK
	}
	if m := aheadNum.FindString(s); m != "" {
		n, fits := secondNumber(m)
		if !fits {
			return api.Token{}, m, api.ErrOver
		}
		return api.Token{Kind: api.TNum, N: n}, m, api.OK
	}
	if m := aheadName.FindString(s); m != "" {
		if aheadKey.MatchString(m) {
			return api.Token{Kind: api.TKey, Text: m}, m, api.OK
		}
		return api.Token{Kind: api.TName, Text: m}, m, api.OK
	}
	if s != "" && (s[0] == '\n' || s[0] == ';') {
		return api.Token{Kind: api.TLine}, s[:1], api.OK
	}
	if strings.HasPrefix(s, "/") && !operand {
		m := aheadRe.FindString(s)
		if m == "" {
			return api.Token{}, "", api.ErrSyntax
		}
		text := bytesOf(m[1 : len(m)-1])
		if _, e := regex.Read(text); e != api.OK {
			return api.Token{}, "", api.ErrSyntax
		}
		return api.Token{Kind: api.TRe, Text: text}, m, api.OK
	}
	if m := aheadMark.FindString(s); m != "" {
		return api.Token{Kind: api.TMark, Text: m}, m, api.OK
	}
	return api.Token{}, "", api.ErrSyntax
}

// secondTokens is what Tokens must answer.
func secondTokens(s string) ([]api.Token, api.Errno, int) {
	if len(s) > 8192 {
		return nil, api.ErrBig, 0
	}
	var l []api.Token
	operand := false
	for at, rest := 0, runes(s); ; {
		if m := aheadStep.FindString(rest); m != "" {
			at, rest = at+utf8.RuneCountInString(m), rest[len(m):]
			continue
		}
		if rest == "" {
			if len(l) == 2000 {
				return nil, api.ErrBig, at
			}
			return append(l, api.Token{At: at}), api.OK, 0
		}
		t, m, e := secondToken(rest, operand)
		if e == api.OK && len(l) == 2000 {
			e = api.ErrBig
		}
		if e != api.OK {
			return nil, e, at
		}
		t.At = at
		l = append(l, t)
		at, rest = at+utf8.RuneCountInString(m), rest[len(m):]
		operand = slices.Contains([]int{api.TNum, api.TStr, api.TRe, api.TName}, t.Kind) || t.Kind == api.TMark && strings.Contains(")]", t.Text)
	}
}

// alike holds Tokens against the second reading.
func alike(t *testing.T, s string) api.Errno {
	t.Helper()
	l, e, at := Tokens(s)
	k, f, place := secondTokens(s)
	if e != f || at != place || !slices.Equal(l, k) {
		t.Fatalf("Tokens(%.200q): %s, %d at %d, not %s, %d at %d", s, told(l, k), e, at, told(k, l), f, place)
	}
	follows(t, l)
	return e
}

// P15.1: all short texts of these bytes, alone and behind some others.
func TestShort(t *testing.T) {
	t.Parallel()
	many := map[api.Errno]int{}
	for _, x := range []struct {
		ahead, of string
		most      int
	}{
		{"", "a1. \"\\/#\n", 5},
		{"", "/\\a*[]=(\n ", 4},
		{"/", "/\\a[]*\n^x", 5},
		{"x/", "/\\a= ;", 5},
		{"$1~/", "/\\(=\"#\n", 5},
		{"x", "=!~<>&|+-*/%$?", 4},
		{"", "=!~&|/", 6},
		{`"`, `"\x0aA4/`, 5},
		{`"\`, "\"\\x0aAf\n", 5},
		{`"\x`, `0123456789abcdefABCDEFgG"\`, 3},
		{"", "01.9a", 6},
		{"922337203685", "4.57", 6},
		{"9223372036854.77580", "7890 ", 4},
		{"#", "#\n\"/ a", 5},
		{"", "if_1 ", 5},
		{"i", "nfd1 ;/", 5},
	} {
		for _, s := range texts(strings.Split(x.of, ""), x.most) {
			many[alike(t, x.ahead+s)]++
		}
	}
	if many[api.OK] < 50000 || many[api.ErrSyntax] < 50000 || many[api.ErrOver] < 100 {
		t.Errorf("too few are right, or wrong: %v", many)
	}
}

// P15.1: each two of these pieces, each three of some, with blanks between and without.
func TestPieces(t *testing.T) {
	t.Parallel()
	pieces := slices.Concat(strings.Fields(wantKeys), strings.Fields(wantMarks), []string{
		"x", "x1", "_", "0", "1.5", "1.", ".5", tooGreat, `""`, `"a"`, `"\x41\/"`, `"\x0a"`, `"a`, "/a/", "//", `/\//`, `/a\\/`, "/*/", "/", "/=/", "#", "# a", "\n", ";", "\t", "@", "&", "|", "\xff", `\`, "é",
	})
	for _, s := range texts(pieces, 2) {
		alike(t, s)
	}
	few := []string{"x", "1", `"a"`, "/a/", "/", "/=", "=", ")", "]", "(", "!", "~", "if", ";", "\n", "#", " ", `\`, "[", `"`}
	for _, between := range []string{"", " "} {
		for i := range few {
			few[i] += between
		}
		for _, s := range texts(few, 4) {
			alike(t, s)
		}
	}
}

// strayText is a text of stray pieces.
func strayText(next func(below int) int, most int) string {
	pieces := []string{"x", "y1", "$", "1", "2.75", "/a/", "/", "/", `"s"`, `"\""`, `\`, "[", "]", "(", ")", "{", "}", "+=", "=", "!~", "~", "!", "&&", "||", "\n", ";", "#", " ", "  ", "\t", "if ", "print ", "BEGIN", "in ", "/=", "-", "*", "%", "<=", ">", "?", ":", ",", ".5", "922337203685", `"\x4`, `1"`}
	var out strings.Builder
	for range next(most) {
		out.WriteString(pieces[next(len(pieces))])
		if next(40) == 0 {
			out.WriteByte(byte(next(256)))
		}
	}
	return out.String()
}

// P15.1: stray texts, short and long.
func TestStray(t *testing.T) {
	t.Parallel()
	next := row(15)
	many := map[api.Errno]int{}
	for range 40000 {
		many[alike(t, strayText(next, 12))]++
	}
	for range 4000 {
		many[alike(t, strayText(next, 80))]++
	}
	for range 20000 {
		l := make([]byte, next(20))
		for i := range l {
			l[i] = byte(next(256))
		}
		many[alike(t, string(l))]++
	}
	if many[api.OK] < 5000 || many[api.ErrSyntax] < 5000 || many[api.ErrOver] < 50 {
		t.Errorf("too few are right, or wrong: %v", many)
	}
}

// strayToken is a text that is a token, whatever stands around it: blanks are ahead of it and behind it.
func strayToken(next func(below int) int) string {
	switch next(8) {
	case 0:
		return " /" + []string{"a", "a|b", `\/`, `\\`, "[^a]", ""}[next(6)] + "/ "
	case 1:
		return ` "` + []string{"a", `\"`, `\x41`, "", "#", "/"}[next(6)] + `" `
	case 2:
		return " " + strings.Repeat("7", 1+next(12)) + []string{" ", ".5 ", ".0000001 "}[next(3)]
	case 3:
		return " " + strings.Fields(wantKeys)[next(20)] + " "
	case 4:
		l := strings.Fields(wantMarks)
		s := l[next(len(l))]
		if s[0] == '/' {
			s = ")" + s
		}
		return " " + s + " "
	case 5:
		return []string{"\n", ";", "#@\n", "\t;"}[next(4)]
	}
	return " " + []string{"a", "NF", "_1", "print1"}[next(4)] + " "
}

// P15.1: many tokens, up to those that may be and beyond, and what is wrong among them.
func TestStrayLong(t *testing.T) {
	t.Parallel()
	next := row(1500)
	many := map[api.Errno]int{}
	for range 600 {
		var out strings.Builder
		for n := next(2200); n > 0; n-- {
			s := strayToken(next)
			if next(2) == 0 && s[0] == ' ' {
				s = "; " // short ones, so that there are enough in few bytes
			}
			if s[0] == ' ' && s[1] == '/' {
				s = "\n" + s
			}
			out.WriteString(s)
		}
		s := out.String()
		many[alike(t, s)]++
		at := next(len(s) + 1)
		many[alike(t, s[:at]+[]string{"@", tooGreat, `"`, "/", " "}[next(5)]+s[at:])]++
	}
	if many[api.OK] < 50 || many[api.ErrBig] < 50 || many[api.ErrSyntax] < 50 || many[api.ErrOver] < 20 {
		t.Errorf("too few of each: %v", many)
	}
}
