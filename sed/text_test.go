package sed

import (
	"slices"
	"strconv"
	"strings"
	"testing"

	"dragoman/api"
	"dragoman/regex"
	"dragoman/subst"
)

// P8.2: the text of a script.
func TestText(t *testing.T) {
	p := api.SedCmd{Op: 'p'}
	ab := sub("a", "b")
	for _, x := range []struct {
		want string
		l    []api.SedCmd
	}{
		{"", nil}, {"", []api.SedCmd{}},
		// Each letter.
		{"p\nd\nq\nn\nh\nH\ng\nG\nx", plainly("pdqnhHgGx")}, {"b", plainly("b")}, {"t", plainly("t")}, {"b\nt\nb", plainly("btb")},
		{":a", []api.SedCmd{to(':', "a")}}, {":a\nb a\nt a", []api.SedCmd{to(':', "a"), to('b', "a"), to('t', "a")}}, {"t _9\n:_9", []api.SedCmd{to('t', "_9"), to(':', "_9")}},
		{"s/a/b/", []api.SedCmd{ab}},
		// Addresses.
		{"1p", []api.SedCmd{on(p, line(1))}}, {"1000000000p", []api.SedCmd{on(p, line(1000000000))}}, {"10p", []api.SedCmd{on(p, line(10))}}, {"$p", []api.SedCmd{on(p, last())}}, {"/a/p", []api.SedCmd{on(p, within("a"))}}, {"/()/p", []api.SedCmd{on(p, within(""))}}, {`/a\x2fb|[\x2fa-c]*/p`, []api.SedCmd{on(p, within(`a\/b|[a-c\/]*`))}}, {"/^.$/p", []api.SedCmd{on(p, within("^.$"))}}, {`/\x0a\x5c/p`, []api.SedCmd{on(p, within(`\x0a\\`))}},
		{"1,2p", []api.SedCmd{on(p, line(1), line(2))}}, {"2,1p", []api.SedCmd{on(p, line(2), line(1))}}, {"$,$p", []api.SedCmd{on(p, last(), last())}}, {"/a/,/b/p", []api.SedCmd{on(p, within("a"), within("b"))}}, {"3,/a b/p", []api.SedCmd{on(p, line(3), within("a b"))}}, {"/a/,4p", []api.SedCmd{on(p, within("a"), line(4))}}, {"$,/a/p", []api.SedCmd{on(p, last(), within("a"))}},
		// !.
		{"!p", []api.SedCmd{not(p)}}, {"1!p", []api.SedCmd{not(on(p, line(1)))}}, {"1,$!p", []api.SedCmd{not(on(p, line(1), last()))}}, {"!b", []api.SedCmd{not(to('b', ""))}}, {"$!b x\n:x", []api.SedCmd{not(on(to('b', "x"), last())), to(':', "x")}}, {"/a/!s/a/b/", []api.SedCmd{not(on(ab, within("a")))}},
		// s, and its flags.
		{"s/a/b/g", []api.SedCmd{flagged(ab, true, false)}}, {"s/a/b/p", []api.SedCmd{flagged(ab, false, true)}}, {"s/a/b/gp", []api.SedCmd{flagged(ab, true, true)}},
		{"s/a//", []api.SedCmd{sub("a", "")}}, {"s/()//", []api.SedCmd{sub("", "")}}, {"s/a/&/", []api.SedCmd{sub("a", "", "")}}, {"s/a/&&b&/g", []api.SedCmd{flagged(sub("a", "", "", "b", ""), true, false)}}, {`s/a/\x26/`, []api.SedCmd{sub("a", "&")}}, {`s/\x2f/\x2f/`, []api.SedCmd{sub(`\/`, "/")}}, {`s/\x5c/\x5c\x0a/`, []api.SedCmd{sub(`\\`, "\\\n")}}, {`s/\x3b/\x00 \xff/`, []api.SedCmd{sub(";", "\x00 \xff")}},
		{"s/(a|b)*/\\x3c&\\x3e/gp\np", []api.SedCmd{flagged(sub("(a|b)*", "<", ">"), true, true), p}},
		{"1,2s/a/b/g", []api.SedCmd{on(flagged(ab, true, false), line(1), line(2))}},
	} {
		if !Right(x.l) {
			t.Errorf("%v isn't right", x.l)
		}
		if s := Text(x.l); s != x.want {
			t.Errorf("Text(%v): %q, not %q", x.l, s, x.want)
		}
		if l, e := Read(x.want); !same(l, x.l) || e != api.OK {
			t.Errorf("Read(%q): %v %d, not %v", x.want, l, e, x.l)
		}
	}
}

// P8.2: what is read, as it is told.
func TestTextOfRead(t *testing.T) {
	for s, want := range map[string]string{
		" 1 p ; $d": "1p\n$d", "001p": "1p", "/a\\/b/,3 ! s/x/\\//pg": "/a\\x2fb/,3!s/x/\\x2f/gp", ":a;ba\ntb;:b": ":a\nb a\nt b\n:b", ";;\n": "", "s/'/&/": `s/\x27/&/`, "! b": "!b", "bp;:p": "b p\n:p", "s/[abc]/x y/": "s/[a-c]/x y/", "/(a)(b)/p": "/ab/p", "p;p;": "p\np", "s/a/b/pg;": "s/a/b/gp",
	} {
		l, e := Read(s)
		if got := Text(l); got != want || e != api.OK {
			t.Errorf("Read(%q) %d, and Text: %q, not %q", s, e, got, want)
		}
	}
}

// strayTree is a tree that is no deeper than may be read.
func strayTree(next func(int) int) []api.Re {
	for {
		var s strings.Builder
		for range next(8) {
			s.WriteString([]string{"a", "b", "(", ")", "|", "*", "+", "?", ".", "^", "$", "[a-c]", `[^\/]`, `\/`, `\\`, `\x00`, ";", " "}[next(18)])
		}
		if l, e := regex.Read(s.String()); e == api.OK {
			return l
		}
	}
}

// strayBy is a replacement.
func strayBy(next func(int) int) []string {
	l := make([]string, 1+next(4))
	for i := range l {
		b := make([]byte, next(5))
		for at := range b {
			b[at] = byte(next(256))
		}
		l[i] = string(b)
	}
	return l
}

// strayAddr is an address, or none.
func strayAddr(next func(int) int) api.Addr {
	switch next(4) {
	case 0:
		return line(1 + next(1000000000))
	case 1:
		return last()
	case 2:
		return api.Addr{Kind: api.ARe, Re: strayTree(next)}
	}
	return api.Addr{}
}

// strayCmd is a command that may have labels a and b.
func strayCmd(next func(int) int) api.SedCmd {
	c := api.SedCmd{Op: "pdqnhHgGxsssbbttt"[next(17)], A: strayAddr(next), Not: next(2) == 0}
	if c.A.Kind != api.ANone && next(2) == 0 {
		c.B = strayAddr(next)
	}
	switch c.Op {
	case 's':
		c.Re, c.By, c.All, c.Print = strayTree(next), strayBy(next), next(2) == 0, next(2) == 0
	case 'b', 't':
		c.Label = []string{"", "a", "b_2"}[next(3)]
	}
	return c
}

// strayScript is a script that is right.
func strayScript(next func(int) int, most int) []api.SedCmd {
	l := []api.SedCmd{to(':', "a"), to(':', "b_2")}
	for range next(most) {
		l = slices.Insert(l, next(len(l)+1), strayCmd(next))
	}
	return l
}

// wantPlace is an address's text.
func wantPlace(a api.Addr) string {
	return []string{"", strconv.Itoa(a.N), "$", "/" + regex.Text(a.Re) + "/"}[a.Kind]
}

// wantText is what Text answers.
func wantText(l []api.SedCmd) string {
	s := ""
	for i, c := range l {
		if i > 0 {
			s += "\n"
		}
		s += wantPlace(c.A)
		if c.B.Kind > 0 {
			s += "," + wantPlace(c.B)
		}
		s += map[bool]string{true: "!"}[c.Not] + string(rune(c.Op))
		if c.Op == 's' {
			s += "/" + regex.Text(c.Re) + "/" + subst.Text(c.By) + "/" + map[bool]string{true: "g"}[c.All] + map[bool]string{true: "p"}[c.Print]
		}
		if c.Label != "" {
			s += map[byte]string{'b': " ", 't': " "}[c.Op] + c.Label
		}
	}
	return s
}

// P8.2, P8.3: stray scripts that are right, told and read again; and two of them, one behind the other.
func TestTextStray(t *testing.T) {
	next := row(82)
	for range 6000 {
		l := strayScript(next, 8)
		s := Text(l)
		if !Right(l) || s != wantText(l) {
			t.Fatalf("%v: %v, %q, not %q", l, Right(l), s, wantText(l))
		}
		if again, e := Read(s); !same(again, l) || e != api.OK {
			t.Fatalf("Read(%q): %v %d, not %v", s, again, e, l)
		}
		hold(t, s)
		// Its labels stand twice, so.
		refused(t, s+";"+s, api.ErrName)
		m := strayScript(next, 8)
		for i := range m {
			if m[i].Label != "" {
				m[i].Label += "x"
			}
		}
		for _, between := range []string{"\n", ";", " ; \n"} {
			both, e := Read(s + between + Text(m))
			if !same(both, slices.Concat(l, m)) || e != api.OK {
				t.Fatalf("Read of %q and %q: %v %d", s, Text(m), both, e)
			}
		}
		if Text(slices.Concat(l, m)) != s+"\n"+Text(m) {
			t.Fatalf("Text of both, %q and %q: %q", s, Text(m), Text(slices.Concat(l, m)))
		}
	}
}

// P8.3: what is longer, or deeper, than may be isn't read again.
func TestTextMost(t *testing.T) {
	full := plainly(strings.Repeat("p", 2000))
	if l, e := Read(Text(full)); !same(l, full) || e != api.OK {
		t.Errorf("2000 commands, read again: %d, %d", len(l), e)
	}
	for i := range full {
		full[i] = on(full[i], line(1000000000))
	}
	if s := Text(full); !Right(full) || len(s) != 2000*12-1 {
		t.Errorf("Text of 2000 commands: %d bytes", len(s))
	}
	refused(t, Text(full), api.ErrBig)
	long := []api.SedCmd{sub("a", strings.Repeat("y", 8187))}
	if l, e := Read(Text(long)); !same(l, long) || e != api.OK {
		t.Errorf("8192 bytes, read again: %d", e)
	}
	long[0].By[0] += "y"
	if !Right(long) || len(Text(long)) != 8193 {
		t.Errorf("Text of 8193 bytes: %d", len(Text(long)))
	}
	refused(t, Text(long), api.ErrBig)
	// A tree may be deeper than a text.
	deep := tree("a")
	for range 31 {
		deep, _ = regex.Join(tree("a"), deep, api.RCat)
	}
	l := []api.SedCmd{{Op: 'p', A: api.Addr{Kind: api.ARe, Re: deep}}}
	if again, e := Read(Text(l)); !Right(l) || !same(again, l) || e != api.OK {
		t.Errorf("30 brackets in one another, read again: %d", e)
	}
	l[0].A.Re, _ = regex.Join(tree("a"), deep, api.RCat)
	if !Right(l) {
		t.Error("a deep tree isn't right")
	}
	refused(t, Text(l), api.ErrDeep)
}

// P8.2: where a label stands.
func TestJump(t *testing.T) {
	l, e := Read("p;:a;b b;t a;:b;:p;b p;:_a")
	if e != api.OK {
		t.Fatal(e)
	}
	twice := []api.SedCmd{to('b', "x"), to('t', "x"), {Op: 'p', Label: "x"}, to(':', "x"), to(':', "y"), to(':', "x"), to(':', "y")}
	odd := []api.SedCmd{{Op: 'b'}, {Op: 's'}, not(on(to(':', "z"), line(0), line(-1))), {Op: ':'}, {Op: ':'}, to(':', "a b\n"), {Op: 0xff, Label: "q"}}
	for _, x := range []struct {
		l     []api.SedCmd
		label string
		want  int
		is    bool
	}{
		{l, "a", 1, true}, {l, "b", 4, true}, {l, "p", 5, true}, {l, "_a", 7, true},
		{l, "c", 0, false}, {l, "", 0, false}, {l, "A", 0, false}, {l, "aa", 0, false}, {l, ":a", 0, false}, {l, "a ", 0, false},
		{twice, "x", 3, true}, {twice, "y", 4, true}, {twice[:3], "x", 0, false}, {twice[4:], "x", 1, true}, {twice[3:], "x", 0, true},
		// Of any commands.
		{odd, "z", 2, true}, {odd, "", 3, true}, {odd[4:], "", 0, true}, {odd[:3], "", 0, false}, {odd, "a b\n", 5, true}, {odd, "q", 0, false},
		{nil, "a", 0, false}, {nil, "", 0, false}, {[]api.SedCmd{}, "a", 0, false}, {plainly("pbt"), "", 0, false}, {plainly(":"), "", 0, true}, {plainly(":"), "a", 0, false},
	} {
		if at, is := Jump(x.l, x.label); at != x.want || is != x.is {
			t.Errorf("Jump(%v, %q): %d %v, not %d %v", x.l, x.label, at, is, x.want, x.is)
		}
	}
}

// R1: what is no script is told, too, without an end that is wrong.
func TestTextOfWrong(t *testing.T) {
	for _, l := range wrongScripts() {
		Text(l)
		Jump(l, "x")
	}
}
