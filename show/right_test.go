package show

import (
	"slices"
	"strings"
	"testing"

	"dragoman/api"
	"dragoman/shell"
)

// withName are the kinds of parts that have a name.
var withName = []int{api.PVar, api.PElse, api.PLen, api.PHead, api.PTail}

// rightParts1 are parts that are right by themselves, in a value.
func rightParts1() []api.Part {
	l := []api.Part{quo(""), out(), out(plain("a")), out(plain("a"), pipe(plain("a"), plain("b")))}
	for _, s := range bytesOf() {
		l = append(l, quo(s))
		if strings.Contains(" \t\n;|&<>()\"'`$\\*?[]{}~", s) {
			continue
		}
		l = append(l, lit(s), lit("a"+s), lit(s+"a"), lit(s+s))
	}
	for _, kind := range withName {
		for _, name := range []string{"x", "_", "x1", "Az_09", "if", "in", "done"} {
			l = append(l, of(kind, name, ""), in(of(kind, name, "")))
		}
	}
	for _, kind := range []int{api.PElse, api.PHead, api.PTail} {
		for _, s := range bytesOf() {
			if !strings.Contains("}'\"$\\`\n", s) {
				l = append(l, of(kind, "x", s), in(of(kind, "x", "a"+s)), of(kind, "x", s+"a"))
			}
		}
	}
	for _, s := range []string{"", "1", "x + 1", "()", "(1)", "()()", "((1)+(2))*3", "a\nb", "{}[]~;&|<>*?#", "\x00\xff", "(\n)"} {
		l = append(l, of(api.PArith, s, ""), in(of(api.PArith, s, "")))
	}
	return l
}

// wrongParts are parts that are wrong wherever they stand.
func wrongParts() []api.Part {
	a := list(plain("a"))
	l := []api.Part{lit(""), {Kind: api.PLit, Quoted: true, S: "a", T: "b"}, {Kind: api.PLit, S: "a", T: "b"}, {Kind: api.PLit, S: "a", L: a}, {Kind: api.PLit, Quoted: true, L: a}, {Kind: api.PLit, T: "b"}}
	for _, s := range bytesOf() {
		if strings.Contains(" \t\n;|&<>()\"'`$\\*?[]{}~", s) {
			l = append(l, lit(s), lit("a"+s), lit(s+"a"), lit("a"+s+"a"))
		}
	}
	both := func(p api.Part) { l = append(l, p, in(p)) }
	for _, kind := range withName {
		for _, name := range []string{"", "1", "1x", "-", "x-", "x ", " x", "x=", "x\n", "#x", "x}", "é", "x\x00", "$x", "x y"} {
			both(of(kind, name, ""))
		}
		both(api.Part{Kind: kind, S: "x", L: a})
		if kind == api.PVar || kind == api.PLen {
			both(of(kind, "x", "a"))
			both(of(kind, "x", " "))
			continue
		}
		for _, c := range "}'\"$\\`\n" {
			s := string(c)
			both(of(kind, "x", s))
			both(of(kind, "x", "a"+s+"b"))
		}
	}
	for _, s := range []string{"(", ")", ")(", "(()", "())", "(1))(2)", "1)", "'", `"`, "$x", `\`, "`", "1'", "(1'2)"} {
		both(of(api.PArith, s, ""))
	}
	both(of(api.PArith, "1", "a"))
	both(api.Part{Kind: api.PArith, S: "1", L: a})
	both(api.Part{Kind: api.PCmd, S: "x"})
	both(api.Part{Kind: api.PCmd, T: "x"})
	both(api.Part{Kind: api.PCmd, S: "x", L: a})
	both(api.Part{Kind: api.PCmd, T: "x", L: a})
	both(out(api.Cmd{}))
	both(out(plain("a"), plain("if")))
	for _, kind := range []int{0, -1, 9, 1 << 62, -1 << 62} {
		both(of(kind, "", ""))
		both(of(kind, "x", ""))
		both(of(kind, "x", "y"))
		both(api.Part{Kind: kind, L: a})
	}
	return l
}

// around are all commands that have these parts in a word: a value, a first word, one behind, behind a name, one of for.
func around(l ...api.Part) []api.Cmd {
	a, word := w(lit("a")), api.Word{L: l}
	return []api.Cmd{
		set("x", word, cmd()), set("x", word, cmd(a)), set("x", a, set("y", word, cmd())), set("x", word, set("y", a, cmd())),
		cmd(a, word), cmd(a, a, word, a), set("x", a, cmd(a, word)),
		each1("x", list(plain("a")), word), each1("x", list(plain("a")), a, word, a), each1("x", list(cmd(a, word))),
		cmd(word), cmd(word, a), set("x", a, cmd(word)), set("x", w(), cmd(word, a)),
	}
}

// values is how many of these are such in which the word is a value.
const values = 4

// inner is how many of these are such in which the word isn't a first one.
const inner = 10

// holds asks Right, and, if it is read, whether it is read as it is.
func holds(t *testing.T, want bool, l ...api.Cmd) {
	t.Helper()
	if Right(l) != want {
		t.Errorf("Right of %.200q, %.200v: %v", Text(l), l, !want)
	}
	if again(l) != want {
		t.Errorf("%.200q, %.200v, read again as it is: %v", Text(l), l, !want)
	}
}

// P12.3: parts that are right, and such that break one word of the section.
func TestRightParts(t *testing.T) {
	for _, p := range rightParts1() {
		for i, c := range around(p) {
			s := ahead(api.Word{L: []api.Part{p}})
			remark := strings.HasPrefix(s, "#") && i >= values
			assigns := (s == "a=" || s == "x=") && i >= inner
			key := isKey(s) && i >= inner
			holds(t, !remark && !assigns && !key, c)
		}
	}
	for _, p := range wrongParts() {
		for _, c := range around(p) {
			holds(t, false, c)
		}
		// Beside right ones, of which none is one with it.
		for _, l := range [][]api.Part{{of(api.PVar, "x", ""), p}, {p, of(api.PVar, "x", "")}, {quo("a"), of(api.PVar, "x", ""), p, of(api.PVar, "x", ""), lit("a")}} {
			for _, c := range around(l...) {
				holds(t, false, c)
			}
		}
	}
}

// P12.3: plain text, each two bytes of it, as a first word, behind one, and as a value.
func TestRightPairs(t *testing.T) {
	names := "ABCDEFGHIJKLMNOPQRSTUVWXYZabcdefghijklmnopqrstuvwxyz_"
	for _, a := range bytesOf() {
		for _, b := range bytesOf() {
			value := !strings.ContainsAny(a+b, " \t\n;|&<>()\"'`$\\*?[]{}~")
			word := value && a != "#"
			first := word && !(strings.Contains(names, a) && b == "=") && a+b != "if" && a+b != "fi" && a+b != "do" && a+b != "in"
			p := w(lit(a + b))
			for _, x := range []struct {
				c    api.Cmd
				want bool
			}{{set("x", p, cmd()), value}, {cmd(w(lit("a")), p), word}, {each1("x", list(plain("a")), p), word}, {cmd(p), first}, {set("x", w(), cmd(p)), first}} {
				if Right(list(x.c)) != x.want {
					t.Errorf("Right of %q: %v", Text(list(x.c)), !x.want)
				}
			}
		}
	}
}

// P12.3: a name that is assigned, or that goes over words, is a name.
func TestRightNames(t *testing.T) {
	a := plain("a")
	for name, want := range map[string]bool{
		"x": true, "_": true, "x1": true, "Az_09": true, "if": true, "in": true, "done": true, strings.Repeat("x", 100000): true,
		"": false, "1": false, "1x": false, "-": false, "x-": false, " x": false, "x ": false, "x=": false, "=": false, "x\n": false, "é": false, "x.": false, "$x": false, "x'": false, "#": false, "\x00": false,
	} {
		holds(t, want, set(name, w(), cmd()))
		holds(t, want, set(name, w(lit("1")), a))
		holds(t, want, set("y", w(), set(name, w(lit("1")), a)))
		holds(t, want, set(name, w(lit("1")), set("y", w(), a)))
		holds(t, want, each1(name, list(a)))
		holds(t, want, each1(name, list(a), w(lit("1"))))
	}
}

// P12.3: words: a part each, but a value; PLits side by side; a first one.
func TestRightWords(t *testing.T) {
	x := of(api.PVar, "x", "")
	// Those that are right everywhere, but for PLits side by side.
	for _, l := range [][]api.Part{{lit("a"), lit("b")}, {quo("a"), quo("b")}, {quo(""), quo("")}, {quo(""), quo("a")}, {quo("a"), quo("")}, {x, lit("a"), lit("b")}, {lit("a"), lit("b"), x}, {x, quo("a"), quo("b"), x}, {lit("a"), quo("a"), quo("b")}, {quo("a"), lit("a"), lit("b")}} {
		for _, c := range around(l...) {
			holds(t, false, c)
		}
	}
	for _, l := range [][]api.Part{{lit("a"), quo("b")}, {quo("a"), lit("b")}, {lit("a"), quo(""), lit("b")}, {quo(""), lit("a"), quo("")}, {quo("a"), x, quo("b")}, {lit("a"), x, lit("b")}, {quo("a"), in(x), quo("b")}, {x, x}, {in(x), in(x)}, {out(), out()}} {
		for _, c := range around(l...) {
			holds(t, true, c)
		}
	}
	// Without parts: a value alone.
	for i, c := range around() {
		holds(t, i < values, c)
	}
	// What begins with #: a value alone.
	for _, l := range [][]api.Part{{lit("#")}, {lit("#a")}, {lit("##")}, {lit("#"), quo("")}, {lit("#"), x}, {lit("#x=1")}} {
		for i, c := range around(l...) {
			holds(t, i < values, c)
		}
	}
	for _, l := range [][]api.Part{{lit("a#")}, {quo("#")}, {quo(""), lit("#")}, {x, lit("#")}, {quo("#"), lit("#")}, {lit("-#x=1")}} {
		for _, c := range around(l...) {
			holds(t, true, c)
		}
	}
	// Keys, and what assigns: not as a first word.
	for _, l := range [][]api.Part{
		{lit("if")}, {lit("then")}, {lit("else")}, {lit("fi")}, {lit("while")}, {lit("do")}, {lit("done")}, {lit("for")}, {lit("in")},
		{lit("x=")}, {lit("x=1")}, {lit("_9=#")}, {lit("x==")}, {lit("if=")}, {lit("x="), quo("")}, {lit("x="), quo("1")}, {lit("x=1"), x}, {lit("x="), out()}, {lit("x=1"), quo("a"), lit("b")},
	} {
		for i, c := range around(l...) {
			holds(t, i < inner, c)
		}
	}
	for _, l := range [][]api.Part{
		{quo("if")}, {lit("if"), quo("")}, {quo(""), lit("if")}, {lit("if"), x}, {x, lit("if")}, {lit("i"), quo("f")}, {lit("If")}, {lit("IF")}, {lit("iff")}, {lit("elif")}, {lit("until")}, {lit("case")}, {lit("thenn")}, {lit("if#")}, {lit("!")}, {lit("=if")},
		{lit("=")}, {lit("=1")}, {lit("1=")}, {lit("1x=1")}, {lit("-x=1")}, {lit("x-=1")}, {lit("é=1")}, {lit("x+=1")}, {lit("x"), quo("=")}, {lit("x"), quo("="), lit("=")}, {lit("x"), quo(""), lit("=1")}, {quo("x"), lit("=1")}, {quo("x=1")}, {x, lit("=1")}, {lit("x"), x, lit("=")}, {quo(""), lit("x=1")}, {lit("x,y=1")}, {lit("x:=1")},
	} {
		for _, c := range around(l...) {
			holds(t, true, c)
		}
	}
}

// wrongCmds are commands that aren't right, whatever stands around them.
func wrongCmds() []api.Cmd {
	a, b := plain("a"), plain("b")
	l, x := list(a), w(lit("1"))
	with := func(c api.Cmd, change func(*api.Cmd)) api.Cmd {
		change(&c)
		return c
	}
	given := []api.Cmd{a, set("x", x, cmd()), set("x", x, a), pipe(a, b), or(a, b), choose(l, l, nil), choose(l, l, l), while(l, l), each1("x", l), each1("x", l, x)}
	var all []api.Cmd
	// What a kind hasn't.
	for _, c := range given {
		names := c.Kind == api.CSimple || c.Kind == api.CFor
		if !names {
			all = append(all, with(c, func(c *api.Cmd) { c.Names = []string{"x"} }), with(c, func(c *api.Cmd) { c.Words = []api.Word{x} }))
			all = append(all, with(c, func(c *api.Cmd) { c.Names, c.Values = []string{"x"}, []api.Word{x} }))
		}
		if c.Kind != api.CSimple {
			all = append(all, with(c, func(c *api.Cmd) { c.Values = []api.Word{x} }), with(c, func(c *api.Cmd) { c.Values = []api.Word{{}} }))
		}
		if c.Kind == api.CSimple || c.Kind == api.CFor {
			all = append(all, with(c, func(c *api.Cmd) { c.A = l }), with(c, func(c *api.Cmd) { c.A = list(a, b) }))
		}
		if c.Kind == api.CSimple || c.Kind == api.CPipe || c.Kind == api.COr {
			all = append(all, with(c, func(c *api.Cmd) { c.B = l }))
		}
		if c.Kind != api.CIf {
			all = append(all, with(c, func(c *api.Cmd) { c.C = l }))
		}
		for _, kind := range []int{0, -1, 7, 1 << 62, -1 << 62} {
			all = append(all, with(c, func(c *api.Cmd) { c.Kind = kind }))
		}
	}
	// What a kind has to have.
	all = append(all, api.Cmd{}, api.Cmd{Kind: api.CSimple}, api.Cmd{Kind: 7}, api.Cmd{Kind: -1})
	all = append(all, pipe(), pipe(a), or(), or(a), or(pipe(a, b)), choose(nil, nil, nil), choose(l, nil, nil), choose(nil, l, nil), choose(nil, l, l), choose(l, nil, l), choose(nil, nil, l), while(nil, nil), while(l, nil), while(nil, l))
	all = append(all, api.Cmd{Kind: api.CFor}, each1("x", nil), each1("x", nil, x), with(each1("x", l), func(c *api.Cmd) { c.Names = nil }), with(each1("x", l), func(c *api.Cmd) { c.Names = []string{"x", "y"} }))
	// Names and values.
	all = append(all, with(a, func(c *api.Cmd) { c.Names = []string{"x"} }), with(a, func(c *api.Cmd) { c.Values = []api.Word{x} }), with(set("x", x, cmd()), func(c *api.Cmd) { c.Names = nil }), with(set("x", x, cmd()), func(c *api.Cmd) { c.Values = nil }), with(set("x", x, a), func(c *api.Cmd) { c.Names = []string{"x", "y"} }), with(set("x", x, a), func(c *api.Cmd) { c.Values = []api.Word{x, x} }))
	// What stands in rows.
	s := set("x", x, cmd())
	for _, c := range []api.Cmd{s, set("x", x, a), pipe(a, b), or(a, b), choose(l, l, nil), while(l, l), each1("x", l)} {
		all = append(all, pipe(c, a), pipe(a, c), pipe(a, c, b), pipe(c, c))
	}
	all = append(all, or(or(a, b), a), or(a, or(a, b)), or(a, or(a, b), b), pipe(a, plain("if")), pipe(plain("x=1"), b), pipe(a, cmd()), or(a, cmd()), or(a, pipe(a, b), pipe(a)))
	return all
}

// P12.3: commands that break one word of the section, wherever they stand.
func TestRightNot(t *testing.T) {
	a, b := plain("a"), plain("b")
	l := list(a)
	for _, c := range wrongCmds() {
		one := list(c)
		holds(t, false, c)
		holds(t, false, c, a)
		holds(t, false, a, c)
		holds(t, false, a, c, b)
		for _, o := range []api.Cmd{
			pipe(c, a), pipe(a, c), or(c, a), or(a, c), or(a, b, c),
			choose(one, l, nil), choose(l, one, nil), choose(l, l, one), choose(list(a, c), l, l), choose(l, list(c, a), l), choose(l, l, list(a, c, a)), while(one, l), while(l, one), while(list(a, c), l), while(l, list(a, c)), each1("x", one), each1("x", list(c, a), w(lit("b"))),
			cmd(w(out(c))), cmd(w(lit("a")), w(lit("b"), in(out(a, c)))), set("x", w(out(c)), cmd()), set("x", w(), set("y", w(out(a), in(out(c))), a)), each1("x", l, w(out(c))), each1("x", l, w(lit("a")), w(in(out(c, a)))),
		} {
			holds(t, false, o)
		}
	}
}

// P12.3: lists without elements are none.
func TestRightEmpty(t *testing.T) {
	for _, x := range shownAll() {
		l := filled(x.l)
		if !Right(l) || Text(l) != x.want || !shell.Same(l, x.l) {
			t.Errorf("%q, with lists without elements: %v", x.want, Right(l))
		}
	}
	if !Right([]api.Cmd{}) || Text([]api.Cmd{}) != "" || Word(api.Word{L: []api.Part{}}) != "" {
		t.Error("nothing at all isn't right")
	}
}

// filled are commands that have an empty list wherever they had none.
func filled(l []api.Cmd) []api.Cmd {
	all := make([]api.Cmd, len(l))
	for i, c := range l {
		c.Names = append([]string{}, c.Names...)
		c.Values, c.Words = filledWords(c.Values), filledWords(c.Words)
		c.A, c.B, c.C = filled(c.A), filled(c.B), filled(c.C)
		all[i] = c
	}
	return all
}

func filledWords(l []api.Word) []api.Word {
	all := make([]api.Word, len(l))
	for i, word := range l {
		all[i].L = make([]api.Part, len(word.L))
		for k, p := range word.L {
			p.L = filled(p.L)
			all[i].L[k] = p
		}
	}
	return all
}

// holders put commands into one more of what counts as deep.
func holders() map[string]func(l []api.Cmd) []api.Cmd {
	a := list(plain("a"))
	word := w(lit("a"))
	return map[string]func(l []api.Cmd) []api.Cmd{
		"if": func(l []api.Cmd) []api.Cmd { return list(choose(l, a, nil)) }, "then": func(l []api.Cmd) []api.Cmd { return list(choose(a, l, nil)) }, "else": func(l []api.Cmd) []api.Cmd { return list(choose(a, a, l)) },
		"while": func(l []api.Cmd) []api.Cmd { return list(while(l, a)) }, "do": func(l []api.Cmd) []api.Cmd { return list(while(a, l)) }, "for": func(l []api.Cmd) []api.Cmd { return list(each1("x", l)) },
		"$(": func(l []api.Cmd) []api.Cmd { return list(cmd(w(out(l...)))) }, "\"$(": func(l []api.Cmd) []api.Cmd { return list(cmd(word, w(lit("b"), in(out(l...))))) }, "x=$(": func(l []api.Cmd) []api.Cmd { return list(set("x", w(out(l...)), cmd())) },
	}
}

// P12.3: as deep as may be, and one deeper; rows, and what stands beside, don't count.
func TestRightDeep(t *testing.T) {
	a := plain("a")
	beside := func(l []api.Cmd) []api.Cmd { return slices.Concat(list(a), l, list(a)) }
	inRow := func(l []api.Cmd) []api.Cmd { return list(or(a, l[0], pipe(a, a))) }
	for name, hold := range holders() {
		for between, put := range map[string]func(l []api.Cmd) []api.Cmd{"nothing": func(l []api.Cmd) []api.Cmd { return l }, "others beside": beside, "||": inRow} {
			l := list(a)
			for deep := 1; deep <= 33; deep++ {
				l = put(hold(l))
				if want := deep <= api.MaxNest; Right(l) != want || again(l) != want {
					t.Errorf("%d of %s, with %s between: right is %v, as it is %v", deep, name, between, Right(l), again(l))
				}
			}
		}
	}
	for outer, hold := range holders() {
		for name, most := range holders() {
			l := most(list(a))
			for range api.MaxNest - 1 {
				l = hold(l)
			}
			holds(t, true, l...)
			holds(t, false, hold(l)...)
			if name == outer {
				break
			}
		}
	}
}

// P12.3: the words of a for are in it; those of a pipe, and of other commands, are in nothing more.
func TestRightDeepWords(t *testing.T) {
	a := list(plain("a"))
	one := w(out())
	for _, hold := range holders() {
		l := func(deep int, c api.Cmd) []api.Cmd {
			all := list(c)
			for range deep {
				all = hold(all)
			}
			return all
		}
		for deep := range 34 {
			// What stands in so many, and how many more it has in one another.
			for _, x := range []struct {
				more int
				c    api.Cmd
			}{
				{0, plain("a")}, {0, set("x", w(), cmd())}, {0, pipe(a[0], a[0])}, {0, or(a[0], a[0])}, {1, choose(a, a, a)}, {1, while(a, a)}, {1, each1("x", a)},
				{1, cmd(one)}, {1, cmd(w(lit("a")), one)}, {1, set("x", one, cmd())}, {1, pipe(a[0], cmd(one))}, {1, or(a[0], set("x", one, a[0]))}, {1, cmd(one, one, one)},
				{2, each1("x", a, one)}, {2, each1("x", a, w(lit("a")), w(lit("b"), in(out())))}, {2, each1("x", list(cmd(one)))}, {2, choose(a, a, list(cmd(one)))}, {2, cmd(w(out(cmd(one))))}, {2, while(list(pipe(a[0], cmd(one))), a)},
				{3, each1("x", a, w(out(choose(a, a, nil))))}, {3, each1("x", a, w(out(cmd(one))))}, {3, cmd(one, w(in(out(each1("x", a, one)))))},
			} {
				holds(t, deep+x.more <= api.MaxNest, l(deep, x.c)...)
			}
		}
	}
}
