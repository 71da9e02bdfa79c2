package scan

import (
	"strings"
	"testing"

	"dragoman/api"
)

const (
	mostBytes  = 8192
	mostTokens = 2000
	tooGreat   = "9223372036855"
)

// P15.1: as many bytes as may be, and one more.
func TestMostBytes(t *testing.T) {
	for _, x := range []struct {
		ahead, fill, behind string
		e                   api.Errno
		at                  int
	}{
		{"", " ", "", api.OK, 0},
		{"", "\t", "x", api.OK, 0},
		{"#", "@", "", api.OK, 0},
		{"#", "\xff", "\n1", api.OK, 0},
		{"", "x", "", api.OK, 0},
		{"", "0", "", api.OK, 0},
		{"0.", "9", "", api.OK, 0},
		{`"`, "a", `"`, api.OK, 0},
		{"if/a/", " ", "/=", api.OK, 0},
		// These are wrong, too; what is too long goes ahead.
		{"@", " ", "", api.ErrSyntax, 0},
		{"", " ", "@", api.ErrSyntax, mostBytes - 1},
		{" " + tooGreat, " ", "", api.ErrOver, 1},
		{"x ", "9", "", api.ErrOver, 2},
		{`x "`, "a", "", api.ErrSyntax, 2},
		{"/", "a", "/", api.ErrSyntax, 0},
		{"", ";", "", api.ErrBig, mostTokens},
	} {
		fill := strings.Repeat(x.fill, mostBytes-len(x.ahead+x.behind))
		s := x.ahead + fill + x.behind
		if x.e != api.OK {
			refused(t, s, x.e, x.at)
		} else if l, e, at := Tokens(s); e != api.OK || at != 0 || len(l) == 0 || l[len(l)-1] != end(mostBytes) {
			t.Errorf("Tokens of %q, %q, .., %q: %d %d", x.ahead, x.fill, x.behind, e, at)
		}
		refused(t, x.ahead+fill+x.fill+x.behind, api.ErrBig, 0)
		refused(t, s+"\n", api.ErrBig, 0)
		refused(t, " "+s, api.ErrBig, 0)
		refused(t, s+s, api.ErrBig, 0)
	}
	refused(t, strings.Repeat("\n", 1<<20), api.ErrBig, 0)
}

// P15.1: as many tokens as may be, and one more; the end is one, too.
func TestMostTokens(t *testing.T) {
	for _, x := range []struct {
		s    string
		many int // so many tokens
	}{
		{"\n", 1}, {";", 1}, {"x ", 1}, {"if ", 1}, {"1 ", 1}, {`""`, 1}, {"$", 1}, {"1.5;", 2}, {"x[", 2}, {"+=", 1}, {"//;", 2}, {"a\n//", 3}, {"a/b;", 4}, {"\t#\n", 1},
	} {
		for ahead := range x.many {
			// One that fills up: less by the end.
			rounds := (mostTokens - 1 - ahead) / x.many
			rest := mostTokens - 1 - ahead - rounds*x.many
			s := strings.Repeat(";", ahead) + strings.Repeat(x.s, rounds) + strings.Repeat("\n", rest)
			for _, gap := range []string{"", " ", " \t #@"} {
				whole := s + gap
				l, e, at := Tokens(whole)
				if len(l) != mostTokens || e != api.OK || at != 0 || l[mostTokens-1] != end(len(whole)) {
					t.Errorf("%q, %d times: %d tokens, %d at %d", x.s, rounds, len(l), e, at)
				}
			}
			// The end would be one more.
			refused(t, s+";", api.ErrBig, len(s)+1)
			refused(t, s+";  ", api.ErrBig, len(s)+3)
			refused(t, s+"; # x", api.ErrBig, len(s)+5)
			refused(t, s+"; # x\n", api.ErrBig, len(s)+5)
			// What stands there is one more.
			for _, more := range []string{";", "\n", "x", "if", "1", "1.5", `"a"`, "/a/", "{", "!~", "x y", "; ;", "1 @", "/b/ /", "x" + tooGreat, ")(", "a &"} {
				refused(t, s+";"+more, api.ErrBig, len(s)+1)
				refused(t, s+"; \t"+more, api.ErrBig, len(s)+3)
				refused(t, s+";#@\n"+more, api.ErrBig, len(s)+3)
			}
		}
	}
	refused(t, strings.Repeat("a ", 2000), api.ErrBig, 4000)
	refused(t, strings.Repeat(" a", 2000), api.ErrBig, 4000)
	refused(t, strings.Repeat(" a", 2001), api.ErrBig, 4001)
	refused(t, strings.Repeat(";", 5000), api.ErrBig, 2000)
	refused(t, strings.Repeat(";", 8192), api.ErrBig, 2000)
}

// P15.1: at one place what no token begins goes ahead of a number that is too great, and that ahead of a token too many.
func TestOrder(t *testing.T) {
	full := strings.Repeat(";", mostTokens)
	for _, s := range []string{"@", "&", ".", ".5", `"a`, `"\q"`, "\"a\n\"", `"\x0a"`, "/", "/a", "/*/", "/a\n/", "/" + strings.Repeat("a", 1001) + "/", "\xff", "\r"} {
		for less := range 3 {
			s := full[less:] + s
			refused(t, s, api.ErrSyntax, mostTokens-less)
			refused(t, s+" ; ; ;", api.ErrSyntax, mostTokens-less)
		}
		refused(t, full+" \t"+s, api.ErrSyntax, mostTokens+2)
		// Behind one token more it isn't come to.
		refused(t, full+";"+s, api.ErrBig, mostTokens)
		refused(t, full+"x"+s, api.ErrBig, mostTokens)
	}
	for _, s := range []string{tooGreat, tooGreat + ".5", strings.Repeat("9", 100), tooGreat + "x", tooGreat + "."} {
		for less := range 3 {
			refused(t, full[less:]+s, api.ErrOver, mostTokens-less)
		}
		refused(t, full+" \t"+s+" @", api.ErrOver, mostTokens+2)
		refused(t, full+";"+s, api.ErrBig, mostTokens)
		refused(t, full+"-"+s, api.ErrBig, mostTokens)
	}
	// From the left, whichever it is.
	refused(t, tooGreat+" @", api.ErrOver, 0)
	refused(t, "@ "+tooGreat, api.ErrSyntax, 0)
	refused(t, "x "+tooGreat+` "a`, api.ErrOver, 2)
	refused(t, `x "a `+tooGreat, api.ErrSyntax, 2)
	refused(t, tooGreat+"@", api.ErrOver, 0)
	refused(t, "1.@"+tooGreat, api.ErrSyntax, 1)
	refused(t, "x & "+full, api.ErrSyntax, 2)
	refused(t, tooGreat+full, api.ErrOver, 0)
	refused(t, "x /a/ /b", api.ErrSyntax, 6)
}
