package shell

import (
	"slices"
	"strconv"
	"strings"
	"testing"

	"dragoman/api"
)

// row is a row of numbers, each below one that is told, that look stray, but are the same in each run.
func row(seed uint64) func(below int) int {
	return func(below int) int {
		seed = seed*6364136223846793005 + 1442695040888963407
		x := seed ^ seed>>29
		return int((x ^ x<<17) >> 1 % uint64(below))
	}
}

// texts are all texts of some pieces, of as many as that at most.
func texts(of []string, most int) []string {
	l := []string{""}
	for at, many := 0, 0; many < most; many++ {
		for end := len(l); at < end; at++ {
			for _, piece := range of {
				l = append(l, l[at]+piece)
			}
		}
	}
	return l
}

// told is a row of commands as one text, with all that is in it: kinds are S, P, O, I, W, F; a word without parts is -.
func told(l []api.Cmd) string {
	out := make([]string, len(l))
	for i, c := range l {
		out[i] = toldCmd(c)
	}
	return strings.Join(out, " ")
}

func toldCmd(c api.Cmd) string {
	var in []string
	for i, name := range c.Names {
		if i < len(c.Values) {
			name += "=" + toldWord(c.Values[i])
		}
		in = append(in, name)
	}
	for i := len(c.Names); i < len(c.Values); i++ {
		in = append(in, "="+toldWord(c.Values[i]))
	}
	for _, w := range c.Words {
		in = append(in, toldWord(w))
	}
	for i, l := range [][]api.Cmd{c.A, c.B, c.C} {
		if len(l) > 0 {
			in = append(in, "ABC"[i:i+1]+"["+told(l)+"]")
		}
	}
	return "?SPOIWF"[c.Kind:c.Kind+1] + "(" + strings.Join(in, " ") + ")"
}

func toldWord(w api.Word) string {
	if len(w.L) == 0 {
		return "-"
	}
	var out strings.Builder
	for _, p := range w.L {
		if p.Quoted {
			out.WriteString("q")
		}
		out.WriteString([]string{"?", "", "$", ":", "#", "^", "%", "C", "="}[p.Kind])
		if p.Kind == api.PCmd {
			out.WriteString("[" + told(p.L) + "]")
		} else if len(p.L) > 0 {
			out.WriteString("?[" + told(p.L) + "]")
		}
		if p.Kind != api.PCmd || p.S != "" {
			out.WriteString(strconv.Quote(p.S))
		}
		if p.T != "" || p.Kind == api.PElse || p.Kind == api.PHead || p.Kind == api.PTail {
			out.WriteString(strconv.Quote(p.T))
		}
	}
	return out.String()
}

// reads holds that a text is these commands.
func reads(t *testing.T, s, want string) {
	t.Helper()
	l, e := Read(s)
	if got := told(l); e != api.OK || got != want {
		t.Errorf("Read(%q): %d, %s, not %s", s, e, got, want)
	}
}

// all holds a row of texts, each with its commands behind it.
func all(t *testing.T, of ...string) {
	t.Helper()
	for i := 0; i < len(of); i += 2 {
		reads(t, of[i], of[i+1])
	}
}

// P11.1: the example of the chapter, and that of the whole.
func TestExamples(t *testing.T) {
	l, e := Read(`x=1 echo "$x"`)
	want := []api.Cmd{{
		Kind:   api.CSimple,
		Names:  []string{"x"},
		Values: []api.Word{{L: []api.Part{{Kind: api.PLit, S: "1"}}}},
		Words: []api.Word{
			{L: []api.Part{{Kind: api.PLit, S: "echo"}}},
			{L: []api.Part{{Kind: api.PVar, Quoted: true, S: "x"}}},
		},
	}}
	if e != api.OK || !Same(l, want) || told(l) != told(want) {
		t.Errorf("%d, %s", e, told(l))
	}
	all(t, `x=a; echo "$x b" $x`, `S(x="a") S("echo" q$"x"q" b" $"x")`)
}

// P11.1: scripts without commands.
func TestNothing(t *testing.T) {
	for _, s := range []string{"", " ", "\t", " \t ", "\n", ";", ";;", ";\n;\n", " ; \n\t;", "#", "#a", " #", "\t#a b 'c", "#\n", "# $( \" ` {\n", "#a\n#b", ";#a\n;#b\n", "# # #\n\n \t\n;#", "#\x00\xff;|&"} {
		l, e := Read(s)
		if len(l) != 0 || e != api.OK {
			t.Errorf("Read(%q): %s, %d", s, told(l), e)
		}
	}
}

// P11.1: blanks and ends.
func TestLines(t *testing.T) {
	all(t,
		"a", `S("a")`,
		"a b", `S("a" "b")`,
		" \ta\t \tb\t ", `S("a" "b")`,
		"a;b", `S("a") S("b")`,
		"a\nb", `S("a") S("b")`,
		"a b;c d\ne", `S("a" "b") S("c" "d") S("e")`,
		";;a ;; \n; b\t;\n", `S("a") S("b")`,
		"\n\n;a\n\n\n;\n;b", `S("a") S("b")`,
		"a;", `S("a")`,
		";a", `S("a")`,
		"a\r\nb\v\f c", "S(\"a\\r\") S(\"b\\v\\f\" \"c\")",
		"a\xa0b \x00", "S(\"a\\xa0b\" \"\\x00\")",
	)
}

// P11.1: a # where a word would begin is a remark, else a byte of the word.
func TestRemarks(t *testing.T) {
	all(t,
		"a #b", `S("a")`,
		"a # b 'c\nd", `S("a") S("d")`,
		"a\t#;b\nc", `S("a") S("c")`,
		"a;#b;c\nd", `S("a") S("d")`,
		"#a\nb", `S("b")`,
		"a#b", `S("a#b")`,
		"a# b", `S("a#" "b")`,
		"a#", `S("a#")`,
		"''#a", `S(q"""#a")`,
		"\\##a", `S(q"#""#a")`,
		"\"a\"#b", `S(q"a""#b")`,
		"$x#b", `S($"x""#b")`,
		"$(a)#b", `S(C[S("a")]"#b")`,
		"$((1))#b", `S(="1""#b")`,
		"'#a' \"#b\" \\#c", `S(q"#a" q"#b" q"#""c")`,
		"x=#a", `S(x="#a")`,
		"x=# b", `S(x="#" "b")`,
		"x= #a", `S(x=-)`,
		"x=1 y=#2 #3", `S(x="1" y="#2")`,
		"x=1 #2", `S(x="1")`,
		"a x=#b", `S("a" "x=#b")`,
		"a b=c#d #e", `S("a" "b=c#d")`,
		"1=#b", `S("1=#b")`,
		"a |#b\nc", `P(A[S("a") S("c")])`,
		"a|#b\n #c\n\nd", `P(A[S("a") S("d")])`,
		"a || # b\nc", `O(A[S("a") S("c")])`,
		"a||#|\n\n#\nc", `O(A[S("a") S("c")])`,
		"$(#)\n)", `S(C[])`,
		"$(a #)\n)", `S(C[S("a")])`,
		"\"$(a #)\"\n)\"", `S(qC[S("a")])`,
		"$(a#)", `S(C[S("a#")])`,
		"if #a\nb;then #c\nd;else #e\nf;fi #g", `I(A[S("b")] B[S("d")] C[S("f")])`,
		"if b #;\nthen c #;\nelse d #;\nfi", `I(A[S("b")] B[S("c")] C[S("d")])`,
		"while #a\nb\ndo #c\nd\ndone #e", `W(A[S("b")] B[S("d")])`,
		"for x in #a\ndo b;done", `F(x B[S("b")])`,
		"for x in a #b\n#c\ndo d;done", `F(x "a" B[S("d")])`,
		"for x in a#b;#c\ndo d;done", `F(x "a#b" B[S("d")])`,
		"for x in x=#b;do d;done", `F(x "x=#b" B[S("d")])`,
		"fi#a", `S("fi#a")`,
	)
}

// P11.1: names that are assigned.
func TestAssign(t *testing.T) {
	all(t,
		"x=", `S(x=-)`,
		"x=1", `S(x="1")`,
		"x=1 y=2", `S(x="1" y="2")`,
		"x=1 y=2 a b", `S(x="1" y="2" "a" "b")`,
		"x= a", `S(x=- "a")`,
		"x= y= a", `S(x=- y=- "a")`,
		"x=;y=\nz=", `S(x=-) S(y=-) S(z=-)`,
		"x=\"\" y='' z", `S(x=q"" y=q"" "z")`,
		"x==", `S(x="=")`,
		"x=y=z", `S(x="y=z")`,
		"x=1y=2", `S(x="1y=2")`,
		"x=a'b'\"c$d\"\\e$f${g}h", `S(x="a"q"bc"q$"d"q"e"$"f"$"g""h")`,
		"x=$(x=1 a)", `S(x=C[S(x="1" "a")])`,
		"x=$((1+x=2))", `S(x=="1+x=2")`,
		"x=1 x=2", `S(x="1" x="2")`,
		"_=1 A9z_=2 a0=3", `S(_="1" A9z_="2" a0="3")`,
		"a x=1", `S("a" "x=1")`,
		"a x= y", `S("a" "x=" "y")`,
		"x =1", `S("x" "=1")`,
		"x = 1", `S("x" "=" "1")`,
		"=1", `S("=1")`,
		"==", `S("==")`,
		"1=2", `S("1=2")`,
		"1x=2", `S("1x=2")`,
		"x-y=2", `S("x-y=2")`,
		"x+=2", `S("x+=2")`,
		"x.=2", `S("x.=2")`,
		"\xe9=2", "S(\"\\xe9=2\")",
		"'x'=1", `S(q"x""=1")`,
		"\"x\"=1", `S(q"x""=1")`,
		"\\x=1", `S(q"x""=1")`,
		"x'='1", `S("x"q"=""1")`,
		"x\\=1", `S("x"q"=""1")`,
		"x\"\"=1", `S("x"q"""=1")`,
		"$x=1", `S($"x""=1")`,
		"${x}=1", `S($"x""=1")`,
		"x$y=1", `S("x"$"y""=1")`,
		"x=1 y'='2", `S(x="1" "y"q"=""2")`,
		"x=1 a y=2", `S(x="1" "a" "y=2")`,
		"if=1 then=2 in=3 for=", `S(if="1" then="2" in="3" for=-)`,
		"x=if", `S(x="if")`,
		"x=then y=fi a", `S(x="then" y="fi" "a")`,
	)
}

// P11.1: pipes, and rows with || between.
func TestRows(t *testing.T) {
	all(t,
		"a|b", `P(A[S("a") S("b")])`,
		"a b | c d|e", `P(A[S("a" "b") S("c" "d") S("e")])`,
		"a|\n\n \nb", `P(A[S("a") S("b")])`,
		"a||b", `O(A[S("a") S("b")])`,
		"a || b||c", `O(A[S("a") S("b") S("c")])`,
		"a||\n \n\nb", `O(A[S("a") S("b")])`,
		"a|b||c", `O(A[P(A[S("a") S("b")]) S("c")])`,
		"a||b|c", `O(A[S("a") P(A[S("b") S("c")])])`,
		"a|b||c|d||e", `O(A[P(A[S("a") S("b")]) P(A[S("c") S("d")]) S("e")])`,
		"a|b;c|d\ne||f", `P(A[S("a") S("b")]) P(A[S("c") S("d")]) O(A[S("e") S("f")])`,
		"x=1||y=2", `O(A[S(x="1") S(y="2")])`,
		"x=1 a||b|c", `O(A[S(x="1" "a") P(A[S("b") S("c")])])`,
		"if a;then b;fi||c", `O(A[I(A[S("a")] B[S("b")]) S("c")])`,
		"a||if b;then c;fi", `O(A[S("a") I(A[S("b")] B[S("c")])])`,
		"a||while b;do c;done||for x in;do d;done", `O(A[S("a") W(A[S("b")] B[S("c")]) F(x B[S("d")])])`,
		"$a|\"$b\"|''|$(c|d)", `P(A[S($"a") S(q$"b") S(q"") S(C[P(A[S("c") S("d")])])])`,
		"a x=1|b y=", `P(A[S("a" "x=1") S("b" "y=")])`,
		"a|b\n\nc", `P(A[S("a") S("b")]) S("c")`,
		"$(a|b||c)", `S(C[O(A[P(A[S("a") S("b")]) S("c")])])`,
	)
}

// P11.1: if, while, for.
func TestNested(t *testing.T) {
	all(t,
		"if a;then b;fi", `I(A[S("a")] B[S("b")])`,
		"if a\nthen b\nelse c\nfi", `I(A[S("a")] B[S("b")] C[S("c")])`,
		"if\na\nb\nthen\nc\nd\nelse\ne\nf\nfi", `I(A[S("a") S("b")] B[S("c") S("d")] C[S("e") S("f")])`,
		"if;a;then;b;else;c;fi", `I(A[S("a")] B[S("b")] C[S("c")])`,
		"if ; \n;a;;\nthen;;b;;fi;;", `I(A[S("a")] B[S("b")])`,
		"if a|b;then c||d;fi", `I(A[P(A[S("a") S("b")])] B[O(A[S("c") S("d")])])`,
		"if a;then b else c;fi", `I(A[S("a")] B[S("b" "else" "c")])`,
		"if x=1;then y=;fi", `I(A[S(x="1")] B[S(y=-)])`,
		"while a;do b;done", `W(A[S("a")] B[S("b")])`,
		"while\na\nb\ndo\nc\nd\ndone", `W(A[S("a") S("b")] B[S("c") S("d")])`,
		"while;a;do;b;done", `W(A[S("a")] B[S("b")])`,
		"for x in;do b;done", `F(x B[S("b")])`,
		"for x in\ndo b;done", `F(x B[S("b")])`,
		"for x in a;do b;done", `F(x "a" B[S("b")])`,
		"for\tx\tin\ta\tb ; ; \n do;b\n;c;done", `F(x "a" "b" B[S("b") S("c")])`,
		"for x in $a \"$b\" '' c'd' $(e) $((1)) y=1;do f;done", `F(x $"a" q$"b" q"" "c"q"d" C[S("e")] ="1" "y=1" B[S("f")])`,
		"for x in do done in for if;do b;done", `F(x "do" "done" "in" "for" "if" B[S("b")])`,
		"for in in in;do b;done", `F(in "in" B[S("b")])`,
		"for for in a;do b;done", `F(for "a" B[S("b")])`,
		"for do in a;do b;done", `F(do "a" B[S("b")])`,
		"for _9 in '';do b;done", `F(_9 q"" B[S("b")])`,
		// In one another.
		"if if a;then b;fi;then c;fi", `I(A[I(A[S("a")] B[S("b")])] B[S("c")])`,
		"while while a;do b;done;do c;done", `W(A[W(A[S("a")] B[S("b")])] B[S("c")])`,
		"for x in a;do for y in b;do c;done;done", `F(x "a" B[F(y "b" B[S("c")])])`,
		"if a;then b;else if c;then d;fi;fi", `I(A[S("a")] B[S("b")] C[I(A[S("c")] B[S("d")])])`,
		// A list needs no end ahead of what ends it, where no word could stand.
		"if if a;then b;fi then while c;do d;done fi", `I(A[I(A[S("a")] B[S("b")])] B[W(A[S("c")] B[S("d")])])`,
		"while if a;then b;fi do for x in;do c;done done", `W(A[I(A[S("a")] B[S("b")])] B[F(x B[S("c")])])`,
		"if a;then if b;then c;fi else if d;then e;fi fi", `I(A[S("a")] B[I(A[S("b")] B[S("c")])] C[I(A[S("d")] B[S("e")])])`,
		"$(if a;then b;fi)", `S(C[I(A[S("a")] B[S("b")])])`,
		"$(if a;then b;fi )", `S(C[I(A[S("a")] B[S("b")])])`,
		// Behind one.
		"if a;then b;fi;c", `I(A[S("a")] B[S("b")]) S("c")`,
		"while a;do b;done\nfor x in;do c;done", `W(A[S("a")] B[S("b")]) F(x B[S("c")])`,
	)
}

// P11.1: the language's words are such alone, as plain text, and where a command may stand.
func TestKeys(t *testing.T) {
	for _, key := range []string{"if", "then", "else", "fi", "while", "do", "done", "for", "in"} {
		q := strconv.Quote(key)
		all(t,
			"a "+key, `S("a" `+q+`)`,
			"a "+key+" "+key+";b", `S("a" `+q+` `+q+`) S("b")`,
			"x=1 a "+key, `S(x="1" "a" `+q+`)`,
			"x="+key, `S(x=`+q+`)`,
			"'"+key+"'", `S(q`+q+`)`,
			"\""+key+"\" a", `S(q`+q+` "a")`,
			"\\"+key, `S(q"`+key[:1]+`""`+key[1:]+`")`,
			key+"''", `S(`+q+`q"")`,
			key+"\"\"", `S(`+q+`q"")`,
			"''"+key, `S(q""`+q+`)`,
			key+"$x", `S(`+q+`$"x")`,
			key+"$()", `S(`+q+`C[])`,
			"x=1 "+key+"''", `S(x="1" `+q+`q"")`,
			key+"x", `S("`+key+`x")`,
			"x"+key, `S("x`+key+`")`,
			key+"=1", `S(`+key+`="1")`,
			key+"#", `S("`+key+`#")`,
			key+".", `S("`+key+`.")`,
			strings.ToUpper(key), `S("`+strings.ToUpper(key)+`")`,
			"a|b "+key, `P(A[S("a") S("b" `+q+`)])`,
			"if a "+key+";then b "+key+";else c "+key+";fi", `I(A[S("a" `+q+`)] B[S("b" `+q+`)] C[S("c" `+q+`)])`,
			"while a "+key+";do b "+key+";done", `W(A[S("a" `+q+`)] B[S("b" `+q+`)])`,
			"for "+key+" in "+key+";do a;done", `F(`+key+` `+q+` B[S("a")])`,
			"$(a "+key+")", `S(C[S("a" `+q+`)])`,
		)
	}
}

// P11.1: R3: what comes out shares no list, and nothing that was handed in can change it.
func TestOwnLists(t *testing.T) {
	const s = "x=1 y=2 a 'b'c | d\nif a; then b; else c; fi; for x in a b; do $(c d); done"
	l, _ := Read(s[strings.Index(s, "\n"):])
	k, _ := Read(s[strings.Index(s, "\n"):])
	want := told(k)
	scribble(l)
	if told(k) != want || told(l) == want {
		t.Error("two answers share a list")
	}
	l, _ = Read("a b c;a b c")
	l[0].Words = append(l[0].Words[:1], l[1].Words[2])
	l[0].Words[0].L[0].S = "z"
	if told(l[1:]) != `S("a" "b" "c")` {
		t.Error("two lists of an answer share")
	}
}

// scribble changes all that is in a list.
func scribble(l []api.Cmd) {
	for i := range l {
		c := &l[i]
		c.Kind = api.COr
		for j := range c.Names {
			c.Names[j] = "scribbled"
		}
		for _, w := range slices.Concat(c.Values, c.Words) {
			for j := range w.L {
				w.L[j].S = "scribbled"
				scribble(w.L[j].L)
			}
		}
		scribble(c.A)
		scribble(c.B)
		scribble(c.C)
	}
}
