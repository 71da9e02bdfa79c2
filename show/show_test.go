package show

import (
	"slices"
	"strings"
	"testing"

	"dragoman/api"
	"dragoman/shell"
)

// stray is a row of numbers, each below one that is told, that look stray, but are the same in each run.
func stray(seed uint64) func(below int) int {
	return func(below int) int {
		seed = seed*6364136223846793005 + 1442695040888963407
		x := seed ^ seed>>29
		return int((x ^ x<<17) >> 1 % uint64(below))
	}
}

// texts are all texts of some pieces, of as many as that at most.
func texts(of []string, most int) []string {
	l := []string{""}
	for at, many := 0, 0; many < most; many++ {
		for end := len(l); at < end; at++ {
			for _, piece := range of {
				l = append(l, l[at]+piece)
			}
		}
	}
	return l
}

// bytesOf is each byte as a text.
func bytesOf() []string {
	l := make([]string, 256)
	for i := range l {
		l[i] = string([]byte{byte(i)})
	}
	return l
}

// lit is plain text.
func lit(s string) api.Part { return api.Part{Kind: api.PLit, S: s} }

// quo is text in quotes.
func quo(s string) api.Part { return api.Part{Kind: api.PLit, Quoted: true, S: s} }

// of is a part of a kind.
func of(kind int, s, t string) api.Part { return api.Part{Kind: kind, S: s, T: t} }

// out is what commands put out.
func out(l ...api.Cmd) api.Part { return api.Part{Kind: api.PCmd, L: l} }

// in is a part in quotes.
func in(p api.Part) api.Part {
	p.Quoted = true
	return p
}

// w is a word.
func w(l ...api.Part) api.Word { return api.Word{L: l} }

// cmd is a simple command without names.
func cmd(l ...api.Word) api.Cmd { return api.Cmd{Kind: api.CSimple, Words: l} }

// plain is a simple command of words that are plain text.
func plain(l ...string) api.Cmd {
	c := cmd()
	for _, s := range l {
		c.Words = append(c.Words, w(lit(s)))
	}
	return c
}

// set is a command that assigns a value to a name, ahead of all that it assigns already.
func set(name string, value api.Word, c api.Cmd) api.Cmd {
	c.Kind = api.CSimple
	c.Names = append([]string{name}, c.Names...)
	c.Values = append([]api.Word{value}, c.Values...)
	return c
}

// list is a row of commands.
func list(l ...api.Cmd) []api.Cmd { return l }

func pipe(l ...api.Cmd) api.Cmd { return api.Cmd{Kind: api.CPipe, A: l} }

func or(l ...api.Cmd) api.Cmd { return api.Cmd{Kind: api.COr, A: l} }

func choose(a, b, c []api.Cmd) api.Cmd { return api.Cmd{Kind: api.CIf, A: a, B: b, C: c} }

func while(a, b []api.Cmd) api.Cmd { return api.Cmd{Kind: api.CWhile, A: a, B: b} }

func each1(name string, b []api.Cmd, l ...api.Word) api.Cmd {
	return api.Cmd{Kind: api.CFor, Names: []string{name}, Words: l, B: b}
}

// again: is their text read as they are?
func again(l []api.Cmd) bool {
	k, e := shell.Read(Text(l))
	return e == api.OK && shell.Same(k, l)
}

// P12.1: a text between two ', and each ' in it.
func TestQuote(t *testing.T) {
	for s, want := range map[string]string{
		"": `''`, "a": `'a'`, "a'b": `'a'\''b'`, "'": `''\'''`, "''": `''\'''\'''`, "'a": `''\''a'`, "a'": `'a'\'''`, "'a'b'": `''\''a'\''b'\'''`,
		"a b": `'a b'`, `"`: `'"'`, `\`: `'\'`, `\'`: `'\'\'''`, "$x": `'$x'`, "`": "'`'", "\n": "'\n'", "a\nb;c|d&": "'a\nb;c|d&'", "#": `'#'`, "$(a)": `'$(a)'`, "\x00\xff": "'\x00\xff'", "é": "'é'", "if": `'if'`, `'\''`: `''\''\'\'''\'''`,
	} {
		if got := Quote(s); got != want {
			t.Errorf("Quote(%q): %q, not %q", s, got, want)
		}
	}
}

// quotedBytes is Quote's answer, byte by byte.
func quotedBytes(s string) string {
	var out strings.Builder
	out.WriteByte('\'')
	for i := range len(s) {
		if s[i] == '\'' {
			out.WriteString(`'\`)
		}
		out.WriteByte(s[i])
		if s[i] == '\'' {
			out.WriteByte('\'')
		}
	}
	out.WriteByte('\'')
	return out.String()
}

// P12.1, P12.4: what is quoted is one quoted text, whatever it is.
func TestQuoteRead(t *testing.T) {
	l := append(texts([]string{"'", "a", `\`, `"`, "$", "\n", "`"}, 5), bytesOf()...)
	l = append(l, strings.Join(bytesOf(), ""), strings.Repeat("'", 100000), strings.Repeat("a'\\", 50000), strings.Repeat("\xff", 100000))
	next := stray(5)
	for range 2000 {
		b := make([]byte, next(20))
		for i := range b {
			b[i] = byte(next(256))
		}
		l = append(l, string(b))
	}
	for _, s := range l {
		got := Quote(s)
		if got != quotedBytes(s) {
			t.Fatalf("Quote(%.40q): %.60q", s, got)
		}
		if u := Word(w(quo(s))); u != got {
			t.Fatalf("Word of %.40q in quotes: %.60q, not %.60q", s, u, got)
		}
		c := list(cmd(w(quo(s))))
		if k, e := shell.Read(got); e != api.OK || !shell.Same(k, c) || !Right(c) {
			t.Fatalf("%.40q, quoted and read again: %d", s, e)
		}
	}
}

// P12.1: a word, part by part, each in quotes and not.
func TestWord(t *testing.T) {
	a := plain("a")
	for _, x := range []struct {
		w    api.Word
		want string
	}{
		{w(), ""},
		{w(lit("a")), "a"}, {w(lit("a=#b")), "a=#b"}, {w(lit("\x00\xff")), "\x00\xff"}, {w(quo("a")), "'a'"}, {w(quo("")), "''"}, {w(quo("a'b")), `'a'\''b'`},
		{w(of(api.PVar, "x", "")), "${x}"}, {w(in(of(api.PVar, "x", ""))), `"${x}"`}, {w(of(api.PVar, "_9Z", "")), "${_9Z}"},
		{w(of(api.PElse, "x", "a b")), "${x:-a b}"}, {w(in(of(api.PElse, "x", "a b"))), `"${x:-a b}"`}, {w(of(api.PElse, "x", "")), "${x:-}"}, {w(of(api.PElse, "x", ":-")), "${x:-:-}"},
		{w(of(api.PLen, "x", "")), "${#x}"}, {w(in(of(api.PLen, "x", ""))), `"${#x}"`},
		{w(of(api.PHead, "x", "#a")), "${x##a}"}, {w(in(of(api.PHead, "x", "*"))), `"${x#*}"`}, {w(of(api.PHead, "x", "")), "${x#}"},
		{w(of(api.PTail, "x", "%a")), "${x%%a}"}, {w(in(of(api.PTail, "x", ")("))), `"${x%)(}"`}, {w(of(api.PTail, "x", "")), "${x%}"},
		{w(out()), "$(\n)"}, {w(in(out())), "\"$(\n)\""}, {w(out(a)), "$(a\n)"}, {w(in(out(a))), "\"$(a\n)\""}, {w(out(a, plain("b", "c"))), "$(a\nb c\n)"},
		{w(of(api.PArith, "1 + x", "")), "$((1 + x))"}, {w(in(of(api.PArith, "(1)*2", ""))), `"$(((1)*2))"`}, {w(of(api.PArith, "", "")), "$(())"},
		// More than one.
		{w(lit("a"), quo("b"), lit("c")), "a'b'c"}, {w(quo(""), lit("a"), quo("")), "''a''"},
		{w(lit("a"), of(api.PVar, "x", ""), lit("b"), in(of(api.PVar, "y", "")), quo("c")), `a${x}b"${y}"'c'`},
		{w(in(of(api.PVar, "x", "")), in(of(api.PVar, "y", ""))), `"${x}""${y}"`},
		{w(quo("a"), in(of(api.PLen, "x", "")), quo("b")), `'a'"${#x}"'b'`},
		{w(out(cmd(w(quo(`"`)))), in(out(cmd(w(in(out(a))))))), "$('\"'\n)\"$(\"$(a\n)\"\n)\""},
		{w(of(api.PHead, "x", "a"), of(api.PTail, "x", "b"), of(api.PElse, "x", "c"), of(api.PArith, "2", "")), "${x#a}${x%b}${x:-c}$((2))"},
	} {
		if got := Word(x.w); got != x.want {
			t.Errorf("Word(%v): %q, not %q", x.w, got, x.want)
		}
		// As a value each of them stands.
		c := list(set("v", x.w, cmd()))
		if Text(c) != "v="+x.want || !Right(c) || !again(c) {
			t.Errorf("v=%s: %q, %v", x.want, Text(c), Right(c))
		}
	}
}

// shown are commands with their text.
type shown struct {
	l    []api.Cmd
	want string
}

// shownAll are commands of all kinds that are right.
func shownAll() []shown {
	a, b, c, d := plain("a"), plain("b"), plain("c"), plain("d")
	x := w(of(api.PVar, "x", ""))
	return []shown{
		{nil, ""}, {list(a), "a"}, {list(a, b), "a\nb"}, {list(a, b, c), "a\nb\nc"},
		// Simple ones.
		{list(plain("a", "b", "c")), "a b c"}, {list(cmd(x, x)), "${x} ${x}"}, {list(cmd(w(quo("")), w(quo("a b")))), "'' 'a b'"},
		{list(set("x", w(), cmd())), "x="}, {list(set("x", w(lit("1")), cmd())), "x=1"}, {list(set("x", w(quo("")), cmd())), "x=''"}, {list(set("x", w(), a)), "x= a"}, {list(set("x", w(lit("1")), plain("a", "b"))), "x=1 a b"},
		{list(set("x", w(lit("#")), a)), "x=# a"}, {list(set("x", w(lit("=")), a)), "x== a"}, {list(set("x", w(), set("y", w(), cmd()))), "x= y="}, {list(set("x", w(lit("1")), set("x", x, set("_", w(in(out(b))), a)))), "x=1 x=${x} _=\"$(b\n)\" a"},
		{list(set("if", w(), set("in", w(lit("fi")), plain("a", "if")))), "if= in=fi a if"}, {list(plain("a", "x=1", "if", "fi", "in")), "a x=1 if fi in"},
		// Rows.
		{list(pipe(a, b)), "a | b"}, {list(pipe(a, plain("b", "c"), d)), "a | b c | d"}, {list(or(a, b)), "a || b"}, {list(or(a, b, plain("c", "d"))), "a || b || c d"},
		{list(or(pipe(a, b), c, pipe(c, d))), "a | b || c || c | d"}, {list(or(set("x", w(), cmd()), set("y", w(), b))), "x= || y= b"}, {list(pipe(a, b), c), "a | b\nc"},
		{list(or(choose(list(a), list(b), nil), while(list(a), list(b)), each1("x", list(b)))), "if a\nthen\nb\nfi || while a\ndo\nb\ndone || for x in\ndo\nb\ndone"},
		// if.
		{list(choose(list(a), list(b), nil)), "if a\nthen\nb\nfi"}, {list(choose(list(a), list(b), list(c))), "if a\nthen\nb\nelse\nc\nfi"}, {list(choose(list(a, b), list(b, c), list(c, d)), a), "if a\nb\nthen\nb\nc\nelse\nc\nd\nfi\na"},
		{list(choose(list(choose(list(a), list(b), nil)), list(or(a, b)), list(choose(list(c), list(d), nil)))), "if if a\nthen\nb\nfi\nthen\na || b\nelse\nif c\nthen\nd\nfi\nfi"},
		// while.
		{list(while(list(a), list(b))), "while a\ndo\nb\ndone"}, {list(while(list(a, b), list(c, d)), a), "while a\nb\ndo\nc\nd\ndone\na"}, {list(while(list(while(list(a), list(b))), list(pipe(a, b)))), "while while a\ndo\nb\ndone\ndo\na | b\ndone"},
		// for.
		{list(each1("x", list(a))), "for x in\ndo\na\ndone"}, {list(each1("x", list(a), w(lit("b")))), "for x in b\ndo\na\ndone"}, {list(each1("in", list(a, b), w(lit("in")), w(lit("do")), w(quo("a b")), w(lit("y=1"))), a), "for in in in do 'a b' y=1\ndo\na\nb\ndone\na"},
		{list(each1("x", list(each1("y", list(a), x)), w(out(b, c)))), "for x in $(b\nc\n)\ndo\nfor y in ${x}\ndo\na\ndone\ndone"},
	}
}

// P12.2, P12.3, P12.4: commands' text: they are right, and it is read as they are.
func TestText(t *testing.T) {
	for _, x := range shownAll() {
		if got := Text(x.l); got != x.want {
			t.Errorf("Text: %q, not %q", got, x.want)
		}
		if !Right(x.l) || !again(x.l) {
			t.Errorf("%q: right is %v, as it is %v", x.want, Right(x.l), again(x.l))
		}
	}
}

// P12.2: in $( ) as by themselves, with byte 10 behind.
func TestTextWithin(t *testing.T) {
	for _, x := range shownAll() {
		if got := Text(list(cmd(w(out(x.l...))))); got != "$("+x.want+"\n)" {
			t.Errorf("Text of a $( ): %q", got)
		}
		if got := Word(w(in(out(x.l...)))); got != "\"$("+x.want+"\n)\"" {
			t.Errorf("Word of a $( ): %q", got)
		}
	}
}

// P12.4: the example of the chapter, and those of the stage's own kind: what is read, as it is told.
func TestTextOfRead(t *testing.T) {
	if got := Quote("a'b"); got != `'a'\''b'` {
		t.Errorf("Quote(a'b): %s", got)
	}
	for s, want := range map[string]string{
		"": "", "# a": "", "\n;;\n": "", "a;b": "a\nb", "a ;\tb # c": "a\nb", "a||b|\nc": "a || b | c", "x=  a": "x= a",
		`a"b"\c'd'`: "a'bcd'", `"a$x"b`: `'a'"${x}"b`, `"$x$y"`: `"${x}""${y}"`, `""`: "''", `\'`: `''\'''`, "$x1": "${x1}", "x=1 y= z": "x=1 y= z",
		"if a;then b;fi": "if a\nthen\nb\nfi", "for x in a  b;do c;done": "for x in a b\ndo\nc\ndone", "while a;do b;done||c": "while a\ndo\nb\ndone || c", "$()": "$(\n)", "$(a;b)": "$(a\nb\n)", "\"${x:-a}\"$((1))": "\"${x:-a}\"$((1))",
	} {
		l, e := shell.Read(s)
		if got := Text(l); e != api.OK || got != want || !Right(l) || !again(l) {
			t.Errorf("%q: %d, %q, not %q, right is %v", s, e, got, want, Right(l))
		}
	}
}

// P12.2: two rows of commands have their texts with byte 10 between.
func TestTextJoin(t *testing.T) {
	all := shownAll()
	for _, x := range all {
		for _, y := range all {
			want := x.want + "\n" + y.want
			if len(x.l) == 0 || len(y.l) == 0 {
				want = x.want + y.want
			}
			if got := Text(slices.Concat(x.l, y.l)); got != want {
				t.Errorf("Text of both: %q, not %q", got, want)
			}
		}
	}
}
