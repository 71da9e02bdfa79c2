package sed

import (
	"regexp"
	"slices"
	"strconv"
	"strings"
	"testing"

	"dragoman/api"
	"dragoman/regex"
	"dragoman/subst"
)

// row is a row of numbers, each below one that is told, that look stray, but are the same in each run.
func row(seed uint64) func(below int) int {
	return func(below int) int {
		seed = seed*6364136223846793005 + 1442695040888963407
		x := seed ^ seed>>29
		return int((x ^ x<<17) >> 1 % uint64(below))
	}
}

// texts are all texts of some pieces, of as many as that at most.
func texts(of []string, most int) []string {
	l := []string{""}
	for at, many := 0, 0; many < most; many++ {
		for end := len(l); at < end; at++ {
			for _, piece := range of {
				l = append(l, l[at]+piece)
			}
		}
	}
	return l
}

// runes is a text in which each byte is a rune: so Go's own regular expressions go byte by byte.
func runes(s string) string {
	l := make([]rune, len(s))
	for i := range l {
		l[i] = rune(s[i])
	}
	return string(l)
}

// bytesOf is a text of which runes made that one.
func bytesOf(s string) string {
	var l []byte
	for _, r := range s {
		l = append(l, byte(r))
	}
	return string(l)
}

// tree is a regular expression that is one.
func tree(s string) []api.Re {
	t, e := regex.Read(s)
	if e != api.OK {
		panic(s)
	}
	return t
}

// Addresses.
func line(n int) api.Addr      { return api.Addr{Kind: api.ALine, N: n} }
func last() api.Addr           { return api.Addr{Kind: api.ALast} }
func within(s string) api.Addr { return api.Addr{Kind: api.ARe, Re: tree(s)} }

// sub is a command that replaces.
func sub(re string, by ...string) api.SedCmd { return api.SedCmd{Op: 's', Re: tree(re), By: by} }

// to is a command with a label.
func to(op byte, label string) api.SedCmd { return api.SedCmd{Op: op, Label: label} }

// on is a command with addresses.
func on(c api.SedCmd, l ...api.Addr) api.SedCmd {
	if len(l) > 0 {
		c.A = l[0]
	}
	if len(l) > 1 {
		c.B = l[1]
	}
	return c
}

// not is a command turned round.
func not(c api.SedCmd) api.SedCmd {
	c.Not = true
	return c
}

// flagged is a command with flags.
func flagged(c api.SedCmd, all, print bool) api.SedCmd {
	c.All, c.Print = all, print
	return c
}

// plainly are commands of letters alone.
func plainly(letters string) []api.SedCmd {
	var l []api.SedCmd
	for i := range len(letters) {
		l = append(l, api.SedCmd{Op: letters[i]})
	}
	return l
}

// sameAddr: are two addresses the same?
func sameAddr(a, b api.Addr) bool {
	return a.Kind == b.Kind && a.N == b.N && slices.Equal(a.Re, b.Re)
}

// same: are two scripts the same?
func same(a, b []api.SedCmd) bool {
	return slices.EqualFunc(a, b, func(c, d api.SedCmd) bool {
		return c.Op == d.Op && sameAddr(c.A, d.A) && sameAddr(c.B, d.B) && c.Not == d.Not && slices.Equal(c.Re, d.Re) && slices.Equal(c.By, d.By) && c.All == d.All && c.Print == d.Print && c.Label == d.Label
	})
}

const (
	someAddr  = `([0-9]+|\$|/(?:[^\\/]|\\.)*/)`
	someName  = `[A-Za-z_][A-Za-z0-9_]*`
	somePart  = `((?:[^\\/]|\\.)*)/`
	someFlags = `(|g|p|gp|pg)`
)

// form is a command, as the chapter says: its addresses, its !, its letter, and what stands behind it.
var form = regexp.MustCompile(`(?s)^(?:` + someAddr + `(?:,` + someAddr + `)?)? *(!?) *(?:([pdqnhHgGx])|(s)/` + somePart + somePart + someFlags + `|([bt]) *(` + someName + `|)|(:)(` + someName + `)) *(?:[;\n]|$)`)

// wantAddr is an address's text read.
func wantAddr(s string) (a api.Addr, e api.Errno) {
	switch {
	case s == "":
		return a, api.OK
	case s == "$":
		return last(), api.OK
	case s[0] == '/':
		a.Kind = api.ARe
		a.Re, e = regex.Read(bytesOf(s[1 : len(s)-1]))
		return a, e
	}
	n, err := strconv.ParseUint(s, 10, 64)
	if err != nil || n < 1 || n > 1000000000 {
		return a, api.ErrSyntax
	}
	return line(int(n)), api.OK
}

// wantCmd is a command's pieces read.
func wantCmd(l []string) (c api.SedCmd, e api.Errno) {
	if c.A, e = wantAddr(l[1]); e != api.OK {
		return c, e
	}
	if c.B, e = wantAddr(l[2]); e != api.OK {
		return c, e
	}
	c.Not = l[3] != ""
	c.Op = (l[4] + l[5] + l[9] + l[11])[0]
	c.Label = l[10] + l[12]
	if c.Op == ':' && l[1]+l[3] != "" {
		return c, api.ErrSyntax
	}
	if c.Op == 's' {
		c.Re, e = regex.Read(bytesOf(l[6]))
		if e != api.OK {
			return c, e
		}
		if c.By, e = subst.Read(bytesOf(l[7])); e != api.OK {
			return c, api.ErrSyntax
		}
		c.All, c.Print = strings.Contains(l[8], "g"), strings.Contains(l[8], "p")
	}
	return c, api.OK
}

// wantRead is what Read answers of a text that is within all limits.
func wantRead(s string) ([]api.SedCmd, api.Errno) {
	var l []api.SedCmd
	for rest := runes(s); ; {
		rest = strings.TrimLeft(rest, " ;\n")
		if rest == "" {
			break
		}
		pieces := form.FindStringSubmatch(rest)
		if pieces == nil {
			return nil, api.ErrSyntax
		}
		c, e := wantCmd(pieces)
		if e != api.OK {
			return nil, e
		}
		l = append(l, c)
		rest = rest[len(pieces[0]):]
	}
	for i, c := range l {
		many := 0
		for _, d := range l {
			if d.Op == ':' && d.Label == c.Label {
				many++
			}
		}
		if l[i].Label != "" && many != 1 {
			return nil, api.ErrName
		}
	}
	return l, api.OK
}

// hold holds what Read answers against what it should be, and what follows from it.
func hold(t *testing.T, s string) api.Errno {
	t.Helper()
	l, e := Read(s)
	want, wantE := wantRead(s)
	if !same(l, want) || e != wantE {
		t.Fatalf("Read(%q): %v %d, not %v %d", s, l, e, want, wantE)
	}
	// P8.3.
	if !Right(l) {
		t.Fatalf("Read(%q) isn't right: %v", s, l)
	}
	if again, f := Read(Text(l)); !same(again, l) || f != api.OK {
		t.Fatalf("Read(%q): %v; told as %q, and read again: %v %d", s, l, Text(l), again, f)
	}
	return e
}

// P8.1: what a script is.
func TestRead(t *testing.T) {
	p, d := api.SedCmd{Op: 'p'}, api.SedCmd{Op: 'd'}
	ab := sub("a", "b")
	for _, x := range []struct {
		s    string
		want []api.SedCmd
	}{
		// No command.
		{"", nil}, {" ", nil}, {"   ", nil}, {"\n", nil}, {";", nil}, {";;\n", nil}, {" ; \n ", nil}, {"\n\n", nil},
		// Each letter.
		{"p", plainly("p")}, {"d", plainly("d")}, {"q", plainly("q")}, {"n", plainly("n")}, {"h", plainly("h")}, {"H", plainly("H")}, {"g", plainly("g")}, {"G", plainly("G")}, {"x", plainly("x")},
		{"s/a/b/", []api.SedCmd{ab}}, {"b", plainly("b")}, {"t", plainly("t")}, {":a", []api.SedCmd{to(':', "a")}},
		// What stands between commands, ahead of them and behind.
		{"p;d", plainly("pd")}, {"p\nd", plainly("pd")}, {"p;;d", plainly("pd")}, {"p\n;\n d", plainly("pd")}, {";p", plainly("p")}, {"\n;p;\n", plainly("p")}, {"p ; d", plainly("pd")}, {" p", plainly("p")}, {"p   ", plainly("p")}, {"p ;", plainly("p")}, {"p; ", plainly("p")}, {"p ; ; d ;\n ", plainly("pd")},
		{"p;d;q;n;h;H;g;G;x", plainly("pdqnhHgGx")},
		{"s/a/b/;p", []api.SedCmd{ab, p}}, {"s/a/b/ \np", []api.SedCmd{ab, p}}, {"b;p", plainly("bp")}, {"b \np", plainly("bp")}, {":a ;p", []api.SedCmd{to(':', "a"), p}},
		// Addresses.
		{"1p", []api.SedCmd{on(p, line(1))}}, {"12p", []api.SedCmd{on(p, line(12))}}, {"1000000000p", []api.SedCmd{on(p, line(1000000000))}}, {"001p", []api.SedCmd{on(p, line(1))}}, {"00001000000000p", []api.SedCmd{on(p, line(1000000000))}}, {"9p", []api.SedCmd{on(p, line(9))}},
		{strings.Repeat("0", 8000) + "7p", []api.SedCmd{on(p, line(7))}},
		{"$p", []api.SedCmd{on(p, last())}}, {"/a/p", []api.SedCmd{on(p, within("a"))}}, {"//p", []api.SedCmd{on(p, within(""))}},
		{"1,2p", []api.SedCmd{on(p, line(1), line(2))}}, {"2,1p", []api.SedCmd{on(p, line(2), line(1))}}, {"1,$p", []api.SedCmd{on(p, line(1), last())}}, {"$,1p", []api.SedCmd{on(p, last(), line(1))}}, {"$,$p", []api.SedCmd{on(p, last(), last())}}, {"/a/,/b/p", []api.SedCmd{on(p, within("a"), within("b"))}}, {"/,/,5p", []api.SedCmd{on(p, within(","), line(5))}}, {"3,/a|b/p", []api.SedCmd{on(p, line(3), within("a|b"))}}, {"//,//p", []api.SedCmd{on(p, within(""), within(""))}},
		// !, and blanks.
		{"!p", []api.SedCmd{not(p)}}, {"1!p", []api.SedCmd{not(on(p, line(1)))}}, {" ! p", []api.SedCmd{not(p)}}, {"  1  !  p  ", []api.SedCmd{not(on(p, line(1)))}}, {"1 p", []api.SedCmd{on(p, line(1))}}, {"$ !p", []api.SedCmd{not(on(p, last()))}}, {"1,$! p", []api.SedCmd{not(on(p, line(1), last()))}}, {"/a/ p", []api.SedCmd{on(p, within("a"))}}, {"1,2 ! s/a/b/", []api.SedCmd{not(on(ab, line(1), line(2)))}}, {"! b", []api.SedCmd{not(to('b', ""))}},
		// s.
		{"s/a/b/g", []api.SedCmd{flagged(ab, true, false)}}, {"s/a/b/p", []api.SedCmd{flagged(ab, false, true)}}, {"s/a/b/gp", []api.SedCmd{flagged(ab, true, true)}}, {"s/a/b/pg", []api.SedCmd{flagged(ab, true, true)}}, {"s/a/b/g ;p", []api.SedCmd{flagged(ab, true, false), p}}, {"s/a/b/p;p", []api.SedCmd{flagged(ab, false, true), p}},
		{"s///", []api.SedCmd{sub("", "")}}, {"s/a//", []api.SedCmd{sub("a", "")}}, {"s//b/", []api.SedCmd{sub("", "b")}}, {"s/a|b/[&]/", []api.SedCmd{sub("a|b", "[", "]")}}, {"s/;/; p/", []api.SedCmd{sub(";", "; p")}}, {"s/a b/ & /", []api.SedCmd{sub("a b", " ", " ")}}, {"s/a/*{/", []api.SedCmd{sub("a", "*{")}}, {`s/a/\x0a/`, []api.SedCmd{sub("a", "\n")}}, {"1,$!s/a/b/g", []api.SedCmd{not(on(flagged(ab, true, false), line(1), last()))}},
		{"s/s/s/g;s/g/p/p", []api.SedCmd{flagged(sub("s", "s"), true, false), flagged(sub("g", "p"), false, true)}},
		// What ends a regular expression, or a replacement.
		{`/a\/b/p`, []api.SedCmd{on(p, within(`a\/b`))}}, {`/\\/p`, []api.SedCmd{on(p, within(`\\`))}}, {`/\\\//p`, []api.SedCmd{on(p, within(`\\\/`))}}, {`/\\\\/p`, []api.SedCmd{on(p, within(`\\\\`))}}, {`/\/\//p`, []api.SedCmd{on(p, within(`\/\/`))}}, {`/[\/]/p`, []api.SedCmd{on(p, within(`[\/]`))}}, {`/\x2f/p`, []api.SedCmd{on(p, within(`\/`))}}, {`/\[/,/\]/p`, []api.SedCmd{on(p, within(`\[`), within(`\]`))}},
		{`s/\//\//`, []api.SedCmd{sub(`\/`, "/")}}, {`s/\\/\\/`, []api.SedCmd{sub(`\\`, `\`)}}, {`s/\\\//\\\//`, []api.SedCmd{sub(`\\\/`, `\/`)}}, {`s/a/\&/`, []api.SedCmd{sub("a", "&")}}, {`s/a/\\&/g`, []api.SedCmd{flagged(sub("a", `\`, ""), true, false)}}, {`s/a\/b/c\/d/p`, []api.SedCmd{flagged(sub(`a\/b`, "c/d"), false, true)}},
		// Labels.
		{":a;b a", []api.SedCmd{to(':', "a"), to('b', "a")}}, {":a;ba", []api.SedCmd{to(':', "a"), to('b', "a")}}, {"t   _1\n:_1", []api.SedCmd{to('t', "_1"), to(':', "_1")}}, {"b;t", plainly("bt")}, {"b ;t ", plainly("bt")}, {":b;b b;bb;tb", []api.SedCmd{to(':', "b"), to('b', "b"), to('b', "b"), to('t', "b")}}, {"bp;:p;p", []api.SedCmd{to('b', "p"), to(':', "p"), p}}, {"  :x9Z_ ", []api.SedCmd{to(':', "x9Z_")}}, {":a;:A;:_", []api.SedCmd{to(':', "a"), to(':', "A"), to(':', "_")}}, {"1bx;$!t x;:x", []api.SedCmd{on(to('b', "x"), line(1)), not(on(to('t', "x"), last())), to(':', "x")}}, {":a", []api.SedCmd{to(':', "a")}},
		{"/x/!d;$d;p", []api.SedCmd{not(on(d, within("x"))), on(d, last()), p}},
	} {
		l, e := Read(x.s)
		if !same(l, x.want) || e != api.OK {
			t.Errorf("Read(%q): %v %d, not %v", x.s, l, e, x.want)
		}
		hold(t, x.s)
	}
}

// P8.1: each letter with no address, one and two, with ! and without.
func TestReadLetters(t *testing.T) {
	addrs := []struct {
		s string
		l []api.Addr
	}{
		{"", nil},
		{"1", []api.Addr{line(1)}}, {"$", []api.Addr{last()}}, {"/a/", []api.Addr{within("a")}},
		{"2,3", []api.Addr{line(2), line(3)}}, {"/a/,$", []api.Addr{within("a"), last()}}, {"$,/b/", []api.Addr{last(), within("b")}},
	}
	rest := map[byte]string{'s': "/a/b/", 'b': " x", 't': "", ':': "y"}
	for n := range 256 {
		op := byte(n)
		for _, a := range addrs {
			for _, turned := range []bool{false, true} {
				c := api.SedCmd{Op: op}
				if op == 's' {
					c = sub("a", "b")
				}
				if op == 'b' {
					c.Label = "x"
				}
				if op == ':' {
					c.Label = "y"
				}
				c = on(c, a.l...)
				c.Not = turned
				s := a.s
				if turned {
					s += "!"
				}
				s += string([]byte{op}) + rest[op] + "\n:x"
				want, wantE := []api.SedCmd{c, to(':', "x")}, api.OK
				known := strings.IndexByte("pdqnhHgGxsbt:", op) >= 0
				addressed := a.s != "" || turned
				switch {
				case op == ':' && addressed, !known && (addressed || strings.IndexByte(" ;\n", op) < 0):
					want, wantE = nil, api.ErrSyntax
				case !known:
					// It is no command, but what may stand ahead of one.
					want = want[1:]
				}
				if l, e := Read(s); !same(l, want) || e != wantE {
					t.Errorf("Read(%q): %v %d, not %v %d", s, l, e, want, wantE)
				}
				hold(t, s)
			}
		}
	}
}

// The chapter's example.
func TestExample(t *testing.T) {
	l, e := Read("1,$!s/a/b/g")
	if e != api.OK || len(l) != 1 {
		t.Fatal(l, e)
	}
	c := l[0]
	if c.Op != 's' || !sameAddr(c.A, line(1)) || !sameAddr(c.B, last()) || !c.Not || !c.All || c.Print || c.Label != "" || !slices.Equal(c.By, []string{"b"}) {
		t.Error(c)
	}
}

// P8.1: all short texts.
func TestReadAll(t *testing.T) {
	accepted, named := 0, 0
	for _, x := range []struct {
		of   string
		most int
	}{
		{"p1,$!/\\;b: sa\n", 4},
		{"p1,! ;", 6},
		{"s/a\\gp", 7},
		{"bt: a1;", 6},
		{"/\\p1,", 6},
	} {
		for _, s := range texts(strings.Split(x.of, ""), x.most) {
			switch hold(t, s) {
			case api.OK:
				accepted++
			case api.ErrName:
				named++
			}
		}
	}
	if accepted < 10000 || named < 1000 {
		t.Error(accepted, named)
	}
}

// strayPieces are such of which stray texts are made.
func strayPieces() []string {
	return []string{"p", "d", "q", "n", "h", "H", "g", "G", "x", ";", "\n", " ", "1", "12", "$", ",", "!", "/a/", `/a\/b/`, `/\\/`, "/(a|b)*/", "/[/", "s/a/b/", "s/a|b/&&/gp", `s/\//\//`, "s/a/b", "s/*/b/", `s/a/\q/`, "b", "t", "b a", "t b", ":a", ":b", ":", "a", "b1", "_", ":_", "1000000000", "1000000001", "0", "/", "s", `\`, "\t", "\x00", "\xff"}
}

// P8.1: stray texts, of pieces as they may stand, and with one byte changed.
func TestReadStray(t *testing.T) {
	next := row(8)
	pieces := strayPieces()
	var heads, tails = []string{"", "", "1", "$", "/a/", "1,$", "/x/,12", "  ", "!", "1!", "$ ! "}, []string{"p", "d", "s/a/b/", "s/a*/<&>/g", `s/[^\/]/\x2f/pg`, "b", "t", "ba", "t b", ":a", ":b", ":a1", "x", "G"}
	accepted := 0
	for range 60000 {
		var s strings.Builder
		for range next(6) {
			if next(8) == 0 {
				s.WriteString(pieces[next(len(pieces))])
				continue
			}
			tail := tails[next(len(tails))]
			if tail[0] != ':' {
				s.WriteString(heads[next(len(heads))])
			}
			s.WriteString(tail + []string{";", "\n", " ;", ";;"}[next(4)])
		}
		text := []byte(s.String())
		if len(text) > 0 && next(3) == 0 {
			text[next(len(text))] = byte(next(256))
		}
		if hold(t, string(text)) == api.OK {
			accepted++
		}
	}
	if accepted < 5000 || accepted > 55000 {
		t.Error(accepted)
	}
}

// P8.1, R3: no memory is kept, and what comes out is no one else's.
func TestReadAgain(t *testing.T) {
	scripts := []string{"1,/a|b/s/a*/<&>/g;b x;:x", "", "z", "/a|b/p", ":x;:x", "s/b/&&/;p", strings.Repeat("p;", 2001)}
	for range 3 {
		for _, s := range scripts {
			l, e := Read(s)
			again, f := Read(s)
			if !same(l, again) || e != f {
				t.Errorf("Read(%q): %v %d, and %v %d", s, l, e, again, f)
			}
			for i := range l {
				clear(l[i].A.Re)
				clear(l[i].B.Re)
				clear(l[i].Re)
				clear(l[i].By)
			}
			clear(l)
			if len(s) < 100 {
				hold(t, s)
				if want, _ := wantRead(s); !same(again, want) {
					t.Errorf("Read(%q): what it answered first changed the second: %v", s, again)
				}
			}
		}
	}
}
