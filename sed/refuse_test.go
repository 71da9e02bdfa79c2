package sed

import (
	"strings"
	"testing"

	"dragoman/api"
)

// refused holds that a text is no script, and why.
func refused(t *testing.T, s string, want api.Errno) {
	t.Helper()
	if l, e := Read(s); l != nil || e != want {
		t.Errorf("Read(%q ..) of %d bytes: %d commands, %d, not %d", s[:min(len(s), 60)], len(s), len(l), e, want)
	}
}

// P8.1: what can't stand, or is missing.
func TestReadRefuses(t *testing.T) {
	for _, s := range []string{
		// No letter, or none of these.
		"z", "P", "D", "N", "a", "c", "i", "y", "w", "r", "=", "#", "{", "}", "\t", "\x00", "\xff", "é", "\t p", "p;z", "1", "$", "/a/", "1,2", "!", "1!", "1 ", " ! ", "1;p", "1\np", "!;p", "/a/;", "$\n", "1,$", "1z", "!z", "/a/z", "1,2z", "1 \tp", "-", "\\", "&", "*", ".",
		// What stands behind a command.
		"p p", "pp", "pd", "p1", "p!", "p,", "p/", "p\t", "p x;", "d:a", "q1", "q 1", "nn", "p ;d d", "x\x00", "p\r\n", "h\xff", "g}", "p#", "s/a/b/p p", "s/a/b/ g", "b x y", "b x 1", ":a b", ":a:b", ":a p", "t x!", "b;b b b", "G -", "H\\",
		// Numbers of lines.
		"0p", "00p", "-1p", "+1p", "1000000001p", "01000000001p", "2147483648p", "9223372036854775807p", "9223372036854775808p", "18446744073709551617p", strings.Repeat("9", 8000) + "p", strings.Repeat("0", 8000) + "p", "1.5p", "1e3p", "0x1p", "0,1p", "1,0p", "1,1000000001p", "1,-1p", "1~2p", "1,+2p", "1 2p",
		// Two addresses.
		"1,p", ",1p", ",p", "1,,2p", "1,2,3p", "1 ,2p", "1, 2p", "1 , 2p", "$$p", "1$p", "$1p", "/a//b/p", "1/a/p", "/a/1p", "/a/ ,2p", "/a/, 2p", "1,!p", "1, p", "1,;p", "1,", "1, ", "1;,2p", "1,\n2p", ", p",
		// !.
		"!!p", "! !p", "1!!p", "1 ! ! p", "!1p", "1!2p", "!$p", "!/a/p", "1!,2p", "1,!2p", "p!", "!:a", "! :a", "1!:a",
		// : with an address, and labels.
		"1:x", "$:x", "/a/:x", "1,2:x", "1 :x", "1 ! :x", ":", ": ", ": x", ":  x", ":;", ":\n", ":\nx", ":1", ":1x", ":-", ":x-", ":x.y", ":x,y", ":é", ":!", ":/", ":\tx", "b1", "b 1", "b 1x", "b -", "bx-", "b\tx", "b \tx", "t/", "t,", "b!", "b$", "b \x00", "t \xff", "bé", "b x.", "b \\x", ":\x00",
		// Regular expressions.
		"/", "/p", "/a", "/a\\/", "/a\\/p", "/\\", "/\\/", "/\\/p", "/\\\\", "/\\\\\\/p", "/*/p", "/(/p", "/)/p", "/a{2}/p", "/[/]/p", "/[b-a]/p", "/a\nb/p", "/a\\\nb/p", "/\\q/p", "/\\n/p", "/\\&/p", "/a/,/p", "/a/,/b", "/a/,/*/p", "1,/p", "1,/(/p", "/a/b/p", "/-/p", "/]/p", "/a/I", "/a/Ip",
		// s.
		"s", "s/", "s/a", "s/a/", "s/a/b", "s//", "s/a/b\\/", "s/a\\/b/", "s/a/b;p", "s/a/b\np", "s ", "s /a/b/", "s,a,b,", "s|a|b|", "s\\a\\b\\", "s/a/b /x", "s/*/b/", "s/(/b/", "s/a+*)/b/", "s/[/]/b/", "s/a\nb/c/", "s/\\q/b/", "s/\\/b/", "s/a\\/b/c", "s/a/\\q/", "s/a/\\n/", "s/a/\\1/", "s/a/b\nc/", "s/a/b\\\nc/", "s/a/\\x4/", "s/a/\\xg0/", "s/a/\\/", "s/a/\\//x", "s/a/b/c/",
		// Flags.
		"s/a/b/gg", "s/a/b/pp", "s/a/b/gpg", "s/a/b/pgp", "s/a/b/gpp", "s/a/b/pgg", "s/a/b/x", "s/a/b/gx", "s/a/b/G", "s/a/b/P", "s/a/b/i", "s/a/b/I", "s/a/b/1", "s/a/b/2g", "s/a/b/w", "s/a/b/g,p", "s/a/b/g p", "s/a/b/ p", "s/a/b/!", "s/a/b//", "s/a/b/\t", "s/a/b/g\x00", "s/a/b/e",
	} {
		refused(t, s, api.ErrSyntax)
		refused(t, " p ;\n"+s, api.ErrSyntax)
		if len(s) < 100 {
			hold(t, s)
		}
	}
}

// P8.1: each byte behind a command, behind a label, behind an s and its parts.
func TestReadBytes(t *testing.T) {
	for n := range 256 {
		c := string([]byte{byte(n)})
		for _, s := range []string{"p", "1", "1,", "1,2", "!", "b", "b ", "t x", ":", ":x", "s", "s/", "s/a/", "s/a/b/", "s/a/b/g", "s/a/b/gp", "$", "/", "/a", "/a/", "p ", "p;", "1 ", "1 !"} {
			for _, behind := range []string{"", "p", "x", " ", ";p", "/", "/p", "//", "/b/"} {
				hold(t, s+c+behind)
				hold(t, ":x;"+s+c+behind)
			}
		}
	}
}

// many are as many commands as that, with ends behind.
func many(n int) string { return strings.Repeat("p;", n) }

// P8.1: as many commands as may be, and more.
func TestReadCommands(t *testing.T) {
	for _, n := range []int{1, 2, 100, 1999, 2000} {
		for s, more := range map[string]int{"": 0, "p": 1, " ;\n; ": 0, "b": 1, "p;d": 2, ":x;bx;": 2, "$!s/a/b/g": 1} {
			text := many(n) + s
			want := api.OK
			if n+more > 2000 {
				want = api.ErrBig
			}
			l, e := Read(text)
			if e != want || e == api.OK && len(l) != n+more || e != api.OK && l != nil {
				t.Errorf("Read of %d commands and %q: %d commands, %d", n, s, len(l), e)
			}
			if !Right(l) {
				t.Errorf("Read of %d commands and %q isn't right", n, s)
			}
		}
	}
	full := many(2000)
	for _, s := range []string{"p", "1p", "!p", "$p", "/a/p", "  p", ";;p", ":x", "b x", "s/a/b/", "p;z", "p z", "pz", "1z", "1", "!", "s/a/b", "/a", "/(/p", "s/*/b/", "bx;z", ":x;:x"} {
		// Behind where the command begins nothing is asked any more.
		refused(t, full+s, api.ErrBig)
		// Ahead of it all is.
		refused(t, "z;"+full+s, api.ErrSyntax)
		refused(t, many(1999)+"p p;"+s, api.ErrSyntax)
		refused(t, "/"+deepRe(31)+"/p;"+full+s, api.ErrDeep)
		// Names are asked behind all.
		refused(t, "b x;"+full+s, api.ErrBig)
		refused(t, ":y;:y;"+full+s, api.ErrBig)
	}
	// What begins no command is none too many.
	for _, s := range []string{"z", "\t", "}", "\x00", ",1p", "  z", ";z;p", "\\"} {
		refused(t, full+s, api.ErrSyntax)
	}
}

// P8.1: as many bytes as may be, and one more.
func TestReadBytesMost(t *testing.T) {
	for _, s := range []string{"", "p", ":x;b x", "1,$!s/a/b/gp", "p;p;p"} {
		most, e := Read(s + strings.Repeat(" ", 8192-len(s)))
		want, _ := Read(s)
		if !same(most, want) || e != api.OK {
			t.Errorf("Read of %q and blanks: %v %d", s, most, e)
		}
		refused(t, s+strings.Repeat(" ", 8193-len(s)), api.ErrBig)
		refused(t, s+strings.Repeat(";", 8193-len(s)), api.ErrBig)
	}
	// Ahead of all.
	for _, s := range []string{"z", "b x;", ":x;:x;", "/(/p;", "/" + deepRe(31) + "/p;", "s/a/b", "0p;", many(2001)} {
		refused(t, s+strings.Repeat(" ", 8193-len(s)), api.ErrBig)
		refused(t, strings.Repeat(" ", 8193-len(s))+s, api.ErrBig)
	}
	refused(t, "z"+strings.Repeat(" ", 8191), api.ErrSyntax)
	refused(t, strings.Repeat(" ", 8191)+"z", api.ErrSyntax)
	refused(t, "b x"+strings.Repeat(" ", 8189), api.ErrName)
	refused(t, strings.Repeat("p", 8192), api.ErrSyntax)
	refused(t, strings.Repeat("/", 8192), api.ErrSyntax)
	refused(t, strings.Repeat("\\", 8192), api.ErrSyntax)
	refused(t, strings.Repeat("a", 1<<20), api.ErrBig)
	name := strings.Repeat("x", 8191)
	if l, e := Read(":" + name); e != api.OK || len(l) != 1 || l[0].Label != name {
		t.Errorf("Read of a long label: %d", e)
	}
	refused(t, "b"+name, api.ErrName)
	by := strings.Repeat("y", 8187)
	if l, e := Read("s/a/" + by + "/"); e != api.OK || len(l) != 1 || l[0].By[0] != by {
		t.Errorf("Read of a long replacement: %d", e)
	}
}

// deepRe is a regular expression in as many brackets as that.
func deepRe(n int) string { return strings.Repeat("(", n) + "a" + strings.Repeat(")", n) }

// P8.1: what a regular expression is refused for.
func TestReadTrees(t *testing.T) {
	at := []string{"/%/p", "/%/,1p", "1,/%/p", "/a/,/%/!p", "s/%/b/", "s/%/b/gp", "$!s/%/&/", "/a/s/%/b/;p", "p;/%/d"}
	put := func(s, re string) string { return strings.Replace(s, "%", re, 1) }
	for _, s := range at {
		for re, want := range map[string]api.Errno{
			deepRe(30): api.OK, deepRe(31): api.ErrDeep, "b" + deepRe(32): api.ErrDeep, deepRe(31) + "*": api.ErrDeep,
			strings.Repeat("a", 1000): api.OK, strings.Repeat("a", 1001): api.ErrBig, strings.Repeat("a*", 667): api.OK, strings.Repeat("a*", 668): api.ErrBig,
			"a)" + deepRe(31): api.ErrSyntax, deepRe(31) + ")": api.ErrDeep, strings.Repeat("(", 31): api.ErrDeep, strings.Repeat("(", 30): api.ErrSyntax,
			strings.Repeat("a", 1001) + ")": api.ErrBig, ")" + strings.Repeat("a", 1001): api.ErrSyntax,
		} {
			text := put(s, re)
			if want != api.OK {
				refused(t, text, want)
				// From the left: what stands behind isn't come to, what stands ahead is.
				refused(t, text+" z", want)
				refused(t, text+";"+many(2001), want)
				refused(t, "z;"+text, api.ErrSyntax)
				refused(t, "1,;"+text, api.ErrSyntax)
				refused(t, "b x;"+text, want)
				continue
			}
			l, e := Read(text)
			if e != api.OK || !Right(l) {
				t.Errorf("Read(%q ..): %d", text[:20], e)
			}
			refused(t, text+" z", api.ErrSyntax)
		}
	}
	// Without its / it is ErrSyntax, whatever it holds.
	for _, re := range []string{"a", deepRe(31), strings.Repeat("a", 1001), "(", "*"} {
		for _, s := range []string{"/%", "/%p", "1,/%p", "s/%", "s/%b", `/%\/p`, `s/%\/b`, "/a/,/%!p"} {
			refused(t, put(s, re), api.ErrSyntax)
		}
		// That of a replacement is missing behind it.
		want := map[string]api.Errno{"a": api.ErrSyntax, "(": api.ErrSyntax, "*": api.ErrSyntax, deepRe(31): api.ErrDeep}[re]
		if len(re) > 1000 {
			want = api.ErrBig
		}
		for _, s := range []string{"s/%/", "s/%/b", `s/%/b\/`, `s/%/\q`, `s/%/\q/`, "s/%/b/gg", "s/%/b/x"} {
			refused(t, put(s, re), want)
		}
	}
	// Of two the first one.
	refused(t, "/"+deepRe(31)+"/,/"+strings.Repeat("a", 1001)+"/p", api.ErrDeep)
	refused(t, "/"+strings.Repeat("a", 1001)+"/,/"+deepRe(31)+"/p", api.ErrBig)
	refused(t, "/"+deepRe(31)+"/s/"+strings.Repeat("a", 1001)+"/b/", api.ErrDeep)
	refused(t, "/(/,/"+deepRe(31)+"/p", api.ErrSyntax)
	refused(t, "/"+deepRe(31)+"/,/(/p", api.ErrDeep)
	refused(t, "0,/"+deepRe(31)+"/p", api.ErrSyntax)
	refused(t, "s/a/\\q/;/"+deepRe(31)+"/p", api.ErrSyntax)
	refused(t, "/"+deepRe(31)+"/p;s/a/\\q/", api.ErrDeep)
	refused(t, "/"+deepRe(31)+"/,p", api.ErrDeep)
	refused(t, "/"+deepRe(31)+"/:x", api.ErrDeep)
	refused(t, "/"+deepRe(31)+"/", api.ErrDeep)
}

// P8.1: labels that stand twice, or are missing, behind all.
func TestReadNames(t *testing.T) {
	for _, s := range []string{
		"b x", "t x", "bx", "tx", "1bx", "$!b x", ":y;b x", "b x;:y", "b x;:X", "b x;:xx", "b xx;:x", "b _;:x", "b;t x",
		":x;:x", ":x;p;:x", ":x;b x;:x", ":x\n:x", "b x;:x;:x", ":x;:y;:x;:y", ":x;:x;:x", ":a;:b;:c;:b",
		":x;:x;b y", "b y;:x;:x", "b x;b y;:x",
	} {
		refused(t, s, api.ErrName)
		hold(t, s)
		for _, behind := range []string{"z", "p p", "1", "s/a/b", "/(/p", "b 1", ":1", "0p", "1:q"} {
			refused(t, s+";"+behind, api.ErrSyntax)
		}
		refused(t, s+";/"+deepRe(31)+"/p", api.ErrDeep)
		refused(t, s+";s/"+strings.Repeat("a", 1001)+"/b/", api.ErrBig)
		refused(t, s+";"+many(2000), api.ErrBig)
		refused(t, s+";"+many(1900), api.ErrName)
		refused(t, many(1900)+s, api.ErrName)
	}
}
