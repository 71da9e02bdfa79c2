package regex

import (
	"regexp"
	"slices"
	"strings"
	"testing"

	"dragoman/api"
	"dragoman/class"
)

// P5.1: the tree of a text.
func TestRead(t *testing.T) {
	a, b, c, d := set("a"), set("b"), set("c"), set("d")
	none := one(api.RNone)
	cat := func(first []api.Re, l ...[]api.Re) []api.Re { return left(api.RCat, first, l...) }
	alt := func(first []api.Re, l ...[]api.Re) []api.Re { return left(api.RAlt, first, l...) }
	star := func(t []api.Re) []api.Re { return over(api.RStar, t) }
	plus := func(t []api.Re) []api.Re { return over(api.RPlus, t) }
	opt := func(t []api.Re) []api.Re { return over(api.ROpt, t) }
	for _, x := range []struct {
		s    string
		want []api.Re
	}{
		// One piece, and one behind the other, from the left.
		{"a", a},
		{"ab", cat(a, b)},
		{"abcd", cat(a, b, c, d)},
		{"a b", cat(a, set(" "), b)},
		{"é", cat(set("\xc3"), set("\xa9"))},
		// One or the other, from the left.
		{"a|b", alt(a, b)},
		{"a|b|c|d", alt(a, b, c, d)},
		{"ab|cd", alt(cat(a, b), cat(c, d))},
		{"a|bc|d", alt(a, cat(b, c), d)},
		// The empty text, and cats without a piece.
		{"", none},
		{"|", alt(none, none)},
		{"a|", alt(a, none)},
		{"|a", alt(none, a)},
		{"||", alt(none, none, none)},
		{"a||b", alt(a, none, b)},
		{"a|b|", alt(a, b, none)},
		{"()", none},
		{"(|)", alt(none, none)},
		{"(a|)b", cat(alt(a, none), b)},
		{"(|a)*", star(alt(none, a))},
		{"a()", cat(a, none)},
		{"()a", cat(none, a)},
		{"()()", cat(none, none)},
		{"()*", star(none)},
		{"()|()", alt(none, none)},
		{"(())", none},
		// Signs, and signs behind them.
		{"a*", star(a)},
		{"a+", plus(a)},
		{"a?", opt(a)},
		{"a**", star(star(a))},
		{"a*+?", opt(plus(star(a)))},
		{"a?+*", star(plus(opt(a)))},
		{"ab*", cat(a, star(b))},
		{"a*b", cat(star(a), b)},
		{"a*b+c?", cat(star(a), plus(b), opt(c))},
		{"a|b*", alt(a, star(b))},
		{"a*|b", alt(star(a), b)},
		{"(ab)*", star(cat(a, b))},
		{"(a|b)+?", opt(plus(alt(a, b)))},
		{"(a*)*", star(star(a))},
		{".*", star(in(dull()))},
		{"[ab]?", opt(set("ab"))},
		{`\**`, star(set("*"))},
		// Brackets.
		{"(a)", a},
		{"((a))", a},
		{"(ab)c", cat(a, b, c)},
		{"a(bc)", cat(a, cat(b, c))},
		{"a(b)c", cat(a, b, c)},
		{"(a)(b)", cat(a, b)},
		{"a|(b|c)", alt(a, alt(b, c))},
		{"(a|b)|c", alt(a, b, c)},
		{"(a|b)c", cat(alt(a, b), c)},
		{"a(b|c)d", cat(a, alt(b, c), d)},
		{"a((b|c)d)*", cat(a, star(cat(alt(b, c), d)))},
		// The beginning and the end, anywhere.
		{"^", one(api.RBegin)},
		{"$", one(api.REnd)},
		{"^a$", cat(one(api.RBegin), a, one(api.REnd))},
		{"a^b", cat(a, one(api.RBegin), b)},
		{"$a^", cat(one(api.REnd), a, one(api.RBegin))},
		{"^^$$", cat(one(api.RBegin), one(api.RBegin), one(api.REnd), one(api.REnd))},
		{"^*", star(one(api.RBegin))},
		{"$?", opt(one(api.REnd))},
		{"a|^|$", alt(a, one(api.RBegin), one(api.REnd))},
		{"(^|a)b", cat(alt(one(api.RBegin), a), b)},
		{`\^\$`, cat(set("^"), set("$"))},
		{`a\^*`, cat(a, star(set("^")))},
		// The point.
		{".", in(dull())},
		{"a.b", cat(a, in(dull()), b)},
		{`[^\x0a]`, in(dull())},
		{`[\x00-\x09\x0b-\xff]`, in(dull())},
		{`\.`, set(".")},
		{"[.]", set(".")},
		// Classes.
		{"[a]", a},
		{"[a-c]", set("abc")},
		{"[a-c]d", cat(set("abc"), d)},
		{"[ab][cd]", cat(set("ab"), set("cd"))},
		{"[^a]", in(class.Not(class.Or(class.One('a'), class.One('\n'))))},
		{"[*+?(){}|$/.]", set("*+?(){}|$/.")},
		{`[\]]`, set("]")},
		{`[\\]\]`, cat(set(`\`), set("]"))},
		{`[^\x00-\xff]`, in(api.Class{})},
		{`[\x00-\xff]`, in(class.Not(api.Class{}))},
		{`a|[\x0a]`, alt(a, set("\n"))},
		// Signs behind a \.
		{`\x41`, set("A")},
		{`\x41B`, cat(set("A"), set("B"))},
		{`\x410`, cat(set("A"), set("0"))},
		{`\x0a`, set("\n")},
		{`\x00\xFF`, cat(set("\x00"), set("\xff"))},
		{`\x2a*`, star(set("*"))},
		{`x41`, cat(set("x"), set("4"), set("1"))},
		{`\\`, set(`\`)},
		{`\\x41`, cat(set(`\`), set("x"), set("4"), set("1"))},
		{`\(a\)`, cat(set("("), a, set(")"))},
		{`a\|b`, cat(a, set("|"), b)},
		{`\{\}`, cat(set("{"), set("}"))},
		{`\[a\]`, cat(set("["), a, set("]"))},
		{`a\-b`, cat(a, set("-"), b)},
		{`a\/b`, cat(a, set("/"), b)},
	} {
		got, e := Read(x.s)
		if !slices.Equal(got, x.want) || e != api.OK {
			t.Errorf("Read(%q): %v %d, not %v", x.s, got, e, x.want)
		}
		// P5.4: what is read is right.
		if !Right(got) || !wantRight(got) {
			t.Errorf("Read(%q) isn't right: %v", x.s, got)
		}
	}
}

// P5.1: each byte as it is, and each behind a \.
func TestReadBytes(t *testing.T) {
	for n := range 256 {
		c := string([]byte{byte(n)})
		want, wantE := set(c), api.OK
		switch c {
		case ".":
			want = in(dull())
		case "^":
			want = one(api.RBegin)
		case "$":
			want = one(api.REnd)
		case "|":
			want = pair(api.RAlt, one(api.RNone), one(api.RNone))
		case "*", "+", "?", "(", ")", "{", "}", "/", "[", "]", "-", `\`, "\n":
			want, wantE = nil, api.ErrSyntax
		}
		if got, e := Read(c); !slices.Equal(got, want) || e != wantE {
			t.Errorf("Read(%q): %v %d, not %v %d", c, got, e, want, wantE)
		}
		want, wantE = set(c), api.OK
		if !strings.Contains(`\][^-/.*+?()|{}$`, c) {
			want, wantE = nil, api.ErrSyntax
		}
		if got, e := Read(`\` + c); !slices.Equal(got, want) || e != wantE {
			t.Errorf("Read(%q): %v %d, not %v %d", `\`+c, got, e, want, wantE)
		}
	}
}

// P5.1: what can't stand, or is missing.
func TestReadRefuses(t *testing.T) {
	for _, s := range []string{
		"*", "+", "?", "*a", "a|*", "a|+b", "|?", "(*)", "(+a)", "a(?)", "(a|*)", "^|*", "()|*", // a sign with nothing ahead
		"(", "a(", "(a", "((a)", "(a|", "(a|b", "a|(", "(()", "(a*", "(^", "()(", "(a)(b", // ) is missing
		")", "a)", ")a", "(a))", "())", "a|)", "|)", ")(", "a*)", "(a)b)", "()|)", // ( is missing
		"{", "}", "a{", "a}", "a{2}", "{a", "a|{", "(a{", "(})", "a*{", // { and } as they are
		"/", "a/", "/a", "a/b", "(/)", "a|/", "a*/", // / as it is
		"]", "x]", "]a", "a]b", "[a]]", "(])", "-", "a-b", "a-", "-a", "a|-", "a*-", // what has a meaning between brackets
		"\n", "a\n", "\na", "a\nb", "(\n)", "a|\n", "a*\n", "[\n]", "\\\n", // 10 as it is
		"[", "[a", "a[", "[]", "[^]", "[a-]", "[-a]", "[b-a]", "[a[]", "[^", "(a[b)", "[a)", "a|[", "[[:alpha:]]", "x*[b-a]", `[\q]`, `[\x4]`, `[\]`, "[^^]", // no class
		`\`, `a\`, `(\`, `a|\`, `\a`, `\n`, `\t`, `\0`, `\ `, `\"`, `\&`, `\,`, `a\qb`, `(\w)`, "\\\x00", "\\\xff", `\X41`, // what may not be behind a \
		`\x`, `\x4`, `\xg4`, `\x4g`, `\x 4`, `a\x`, `(\x4)`, `\x4*`, // too few digits
	} {
		if got, e := Read(s); len(got) != 0 || e != api.ErrSyntax {
			t.Errorf("Read(%q): %v %d", s, got, e)
		}
	}
}

// P5.1: brackets in one another.
func TestReadDeep(t *testing.T) {
	const most = 30
	deep := func(n int, s string) string { return strings.Repeat("(", n) + s + strings.Repeat(")", n) }
	ab := pair(api.RAlt, set("a"), set("b"))
	for n := range most + 1 {
		for s, want := range map[string][]api.Re{"": one(api.RNone), "a": set("a"), "a|b": ab, "[(]": set("("), `\(`: set("(")} {
			if got, e := Read(deep(n, s)); !slices.Equal(got, want) || e != api.OK {
				t.Errorf("Read(%q): %v %d", deep(n, s), got, e)
			}
		}
	}
	// Those that stand beside one another are in no more others.
	side := deep(most, "a")
	for _, s := range []string{side + side, side + "|" + side + "*", deep(most-1, "(a)(b)|(c)"), strings.Repeat("(a)", 500)} {
		if got, e := Read(s); !wantRight(got) || e != api.OK {
			t.Errorf("Read(%q): %d", s, e)
		}
	}
	open := strings.Repeat("(", most+1)
	for _, s := range []string{
		deep(most+1, "a"), deep(most+1, ""), deep(most+2, "a"), deep(1000, "a"), deep(100000, "a"),
		deep(most, "a(b)"), deep(most, "a|(b)"), deep(most, "(a)b"), deep(most, "a*(b)"), side + deep(most+1, "a"), "a|" + deep(most+1, "a"), deep(most-1, "(a)((b))"),
		// What is wrong behind it isn't come to.
		open, open + "*", open + "{", open + ")", open + "[", open + `\`, deep(most+1, "a") + ")", open + many(2001),
	} {
		if got, e := Read(s); len(got) != 0 || e != api.ErrDeep {
			t.Errorf("Read(%.60q): %v %d", s, got, e)
		}
	}
	// What is wrong ahead of it counts.
	for _, s := range []string{"*" + open, "a{" + open, ")" + open, "[b-a]" + open, `\q` + open, deep(most, "a") + ")" + open, strings.Repeat("(", most) + "*(", strings.Repeat("(", most), strings.Repeat("(", most) + "a"} {
		if got, e := Read(s); len(got) != 0 || e != api.ErrSyntax {
			t.Errorf("Read(%q): %v %d", s, got, e)
		}
	}
}

// P5.1: as many nodes as may be, and one more.
func TestReadBig(t *testing.T) {
	for _, s := range []string{
		many(1999), many(2000), many(1997) + "*+?", many(1999) + "*", many(1998) + "[a-c]", many(1998) + `\x41`, many(1998) + "()", many(1998) + "^", many(1998) + "$", many(1998) + ".",
		many(1998) + "|", "|" + many(1998), many(1998) + "|a", "a|" + many(1998), many(999) + "|" + many(1000), "(" + many(2000) + ")", "((a)" + many(1999)[1:] + ")*",
		strings.Repeat("|", 999), strings.Repeat("()", 1000), "a" + strings.Repeat("*", 1999), "()" + strings.Repeat("?", 1999),
		"[" + strings.Repeat("a-c", 10000) + "]",
	} {
		got, e := Read(s)
		if !wantRight(got) || e != api.OK || !Right(got) {
			t.Errorf("Read(%.20q .. %d): %d nodes, %d", s, len(s), len(got), e)
		}
	}
	for _, s := range []string{
		// By a byte, by a sign.
		many(2000) + "|a", many(2000) + "|[a]", many(2000) + `|\x41`, many(2000) + "|(a", many(2000) + "|^", many(2000) + "|.", "a|" + many(1998) + "|a", many(2000) + "*", many(2000) + "+", many(2000) + "?", "a" + strings.Repeat("*", 2000), "(" + many(2000) + ")*",
		// By RNone.
		many(2000) + "|", many(2000) + "||", many(2000) + "|()", "(" + many(2000) + "|)",
		// By RCat.
		many(2001), many(1999) + "b", many(1999) + "()", many(1999) + "[a]", many(1999) + "(b)", many(1999) + "$", many(1998) + "b*", strings.Repeat("()", 1001), strings.Repeat("a", 100000),
		// By RAlt.
		many(1999) + "|b", many(1999) + "|", "|" + many(1999), "b|" + many(1999), many(1000) + "|" + many(1000), "(" + many(1999) + "|b)", strings.Repeat("|", 1000), strings.Repeat("|", 100000), many(1998) + "|b*",
	} {
		if got, e := Read(s); len(got) != 0 || e != api.ErrBig {
			t.Errorf("Read(%.20q .. %d): %d nodes, %d", s, len(s), len(got), e)
		}
	}
}

// P5.1: two errors, of which the first from the left counts, and at one place ErrBig.
func TestReadFirst(t *testing.T) {
	deep := strings.Repeat("(", 30)
	for _, x := range []struct {
		s string
		e api.Errno
	}{
		// Behind a byte, and behind RCat, something that can't stand, or is missing, or stands too deep.
		{many(2001) + "{", api.ErrBig},
		{many(2001) + ")", api.ErrBig},
		{many(2001) + "/", api.ErrBig},
		{many(2001) + "[", api.ErrBig},
		{many(2001) + `\`, api.ErrBig},
		{many(2001) + "\n", api.ErrBig},
		{"(" + many(2001), api.ErrBig},
		{deep + many(2001) + "(", api.ErrBig},
		{deep + many(2001) + "((", api.ErrBig},
		{many(2000) + "|a{", api.ErrBig},
		{many(2000) + "|a)", api.ErrBig},
		{deep + many(2000) + "|a(", api.ErrBig},
		// RCat is made behind a sign, and behind a bracket.
		{many(1999) + "b*{", api.ErrBig},
		{many(1999) + "(b{", api.ErrSyntax},
		{many(1999) + "(b", api.ErrSyntax},
		{many(1999) + "(b)", api.ErrBig},
		{many(1998) + "b{", api.ErrSyntax},
		// Where RNone would stand.
		{many(2000) + "|)", api.ErrBig},
		{many(2000) + "|{", api.ErrBig},
		{many(2000) + "|*", api.ErrBig},
		{many(2000) + "|\n", api.ErrBig},
		{"(" + many(2000) + "|", api.ErrBig},
		{many(1999) + "(", api.ErrSyntax},
		{many(1999) + "(*", api.ErrSyntax},
		{many(1998) + "(*", api.ErrSyntax},
		// Behind RAlt's second kid.
		{many(1999) + "|b{", api.ErrBig},
		{many(1999) + "|b)", api.ErrBig},
		{many(1999) + "|b\n", api.ErrBig},
		{"(" + many(1999) + "|b", api.ErrBig},
		{many(1999) + "|{", api.ErrBig},
		{many(1999) + "|)", api.ErrBig},
		{many(1998) + "|b{", api.ErrSyntax},
		{many(1998) + "|{", api.ErrSyntax},
		// One piece more, which is wrong, belongs to that kid.
		{many(1999) + "|b[b-a]", api.ErrSyntax},
		{many(1999) + `|b\q`, api.ErrSyntax},
		{deep + many(1999) + "|b(", api.ErrDeep},
		{deep + many(2000) + "|(", api.ErrDeep},
		{many(2000) + "|[b-a]", api.ErrSyntax},
		// What is no piece makes no node.
		{many(2000) + "{", api.ErrSyntax},
		{many(2000) + ")", api.ErrSyntax},
		{many(2000) + "[a", api.ErrSyntax},
		{many(2000) + `\q`, api.ErrSyntax},
		{deep + many(2000) + "(", api.ErrDeep},
		{many(2000) + "[a]", api.ErrBig},
		// Each kind of error behind each.
		{"a{" + many(2001), api.ErrSyntax},
		{"a{" + deep + "(", api.ErrSyntax},
		{many(2001) + "*" + deep + "(", api.ErrBig},
		{deep + "(" + "*", api.ErrDeep},
		{deep + "(" + many(2001), api.ErrDeep},
		{"[b-a]" + many(2001), api.ErrSyntax},
		{many(2000) + "{" + many(2001), api.ErrSyntax},
	} {
		if got, e := Read(x.s); len(got) != 0 || e != x.e {
			t.Errorf("Read(%.20q .. %.10q): %d nodes, %d, not %d", x.s, x.s[max(0, len(x.s)-10):], len(got), e, x.e)
		}
	}
}

// behind is chapter 4's sign, if it stands behind a \; signs is any, of runes that stand for bytes.
const (
	behind = `\\x[0-9A-Fa-f]{2}|\\[\]\\\[^\-/.*+?()|{}$]`
	signs  = `(?:[^\n\]\\\[^-]|` + behind + `)`
)

// token is a class, a sign behind a \, or a byte.
var token = regexp.MustCompile(`^(?s:\[\^?(?:` + signs + `(?:-` + signs + `)?)+\]|` + behind + `|.)`)

// cut is the token that a text begins with.
func cut(s string) string {
	if s[0] != '[' && s[0] != '\\' {
		return s[:1]
	}
	runes := make([]rune, len(s))
	for i := range len(s) {
		runes[i] = rune(s[i])
	}
	return s[:len([]rune(token.FindString(string(runes))))]
}

// open is what is read of a bracket, or of the whole: where the nodes stand of its cats, of the cat, and of the piece that isn't in the cat yet; below 0: none.
type open struct{ all, cat, piece int }

// second reads a text by a stack of its own.
type second struct {
	t     []api.Re
	stack []open
}

// make makes a node, or tells that it would be too many.
func (r *second) make(kind int, k api.Class, kids ...int) (int, bool) {
	n := api.Re{Kind: kind, Set: k}
	copy(n.Kids[:], kids)
	r.t = append(r.t, n)
	return len(r.t) - 1, len(r.t) <= 2000
}

// enter puts the piece into the cat.
func (r *second) enter() bool {
	top, well := &r.stack[len(r.stack)-1], true
	switch {
	case top.piece < 0:
	case top.cat < 0:
		top.cat = top.piece
	default:
		top.cat, well = r.make(api.RCat, api.Class{}, top.cat, top.piece)
	}
	top.piece = -1
	return well
}

// close puts the cat among the cats.
func (r *second) close() bool {
	top := &r.stack[len(r.stack)-1]
	well := r.enter()
	if well && top.cat < 0 {
		top.cat, well = r.make(api.RNone, api.Class{})
	}
	if well && top.all >= 0 {
		top.all, well = r.make(api.RAlt, api.Class{}, top.all, top.cat)
	} else {
		top.all = top.cat
	}
	top.cat = -1
	return well
}

// step reads a token.
func (r *second) step(what string) api.Errno {
	top := &r.stack[len(r.stack)-1]
	well, can := true, true
	// The signs' kinds stand in this order.
	kind := strings.Index("*+?", what)
	switch sign := kind >= 0; {
	case sign && top.piece >= 0:
		top.piece, well = r.make(api.RStar+kind, api.Class{}, top.piece)
	case what == "|":
		well = r.close()
	case what == ")":
		well, can = r.close(), len(r.stack) > 1
		if can {
			all := top.all
			r.stack = r.stack[:len(r.stack)-1]
			r.stack[len(r.stack)-1].piece = all
		}
	case what == "(":
		well = r.enter()
		if well && len(r.stack) > 30 {
			return api.ErrDeep
		}
		r.stack = append(r.stack, open{-1, -1, -1})
	case sign, strings.Contains("{}/]-\n", what):
		well, can = r.close(), false
	default:
		if well = r.enter(); well {
			well, can = r.atom(top, what)
		}
	}
	switch {
	case !well:
		return api.ErrBig
	case !can:
		return api.ErrSyntax
	}
	return api.OK
}

// atom reads a token that makes a piece.
func (r *second) atom(top *open, what string) (well, can bool) {
	kind, k, e := api.RSet, api.Class{}, api.OK
	switch {
	case what == "^":
		kind = api.RBegin
	case what == "$":
		kind = api.REnd
	case what == ".":
		k = dull()
	case what[0] == '[':
		k, _, e = class.Read(what)
	default:
		var c byte
		c, _, e = class.Sign(what)
		k = class.One(c)
	}
	if e != api.OK {
		return true, false
	}
	top.piece, well = r.make(kind, k)
	return well, true
}

// wantRead is what Read answers.
func wantRead(s string) ([]api.Re, api.Errno) {
	r := second{stack: []open{{-1, -1, -1}}}
	for s != "" {
		what := cut(s)
		if e := r.step(what); e != api.OK {
			return nil, e
		}
		s = s[len(what):]
	}
	switch {
	case !r.close():
		return nil, api.ErrBig
	case len(r.stack) > 1:
		return nil, api.ErrSyntax
	}
	return r.t, api.OK
}

// against holds what Read answers against what it should, and tells whether it is a tree.
func against(t *testing.T, s string) bool {
	got, e := Read(s)
	want, wantE := wantRead(s)
	if !slices.Equal(got, want) || e != wantE {
		t.Fatalf("Read(%q): %v %d, not %v %d", s, got, e, want, wantE)
	}
	if e == api.OK && (!Right(got) || !wantRight(got)) {
		t.Fatalf("Read(%q) isn't right: %v", s, got)
	}
	return e == api.OK
}

// texts are all of some bytes, up to a length.
func texts(of string, long int) []string {
	l := []string{""}
	for at := 0; len(l[at]) < long; at++ {
		for i := range len(of) {
			l = append(l, l[at]+of[i:i+1])
		}
	}
	return l
}

// P5.1, P5.4: all short texts of the bytes that have a meaning, and some others.
func TestReadAll(t *testing.T) {
	for _, s := range slices.Concat(texts("a|()*+?.^$[]-{}\\/\n", 3), texts("a|()*[\\]", 5), texts("a|()*", 7)) {
		against(t, s)
	}
}

// P5.1: short texts behind as many nodes as may be, and few less.
func TestReadAllBig(t *testing.T) {
	for nodes := 1996; nodes <= 2000; nodes++ {
		most := "a" + strings.Repeat("*", nodes-1)
		for _, ahead := range []string{most, most + "|", most + "|a", "(" + most} {
			for _, s := range texts("a|()*{", 3) {
				against(t, ahead+s)
			}
		}
	}
}

// P5.1, P5.4: long texts that look stray, of parts that may stand there, and, at times, of one that may not.
func TestReadStray(t *testing.T) {
	parts := []string{"a", "z", "0", " ", "é", "\x00", "\xff", ".", "^", "$", "|", "|", "()", "(", "(", ")", ")", "*", "+", "?", "[a-c]", "[^a]", `[\]]`, `[^\x00-\xff]`, `[()|]`, `\x0a`, `\xfF`, `\\`, `\(`, `\|`, `\*`, `\[`}
	wrong := []string{"{", "}", "/", "]", "-", "\n", "[", `\`, "[b-a]", `\q`, `\x4`, "*", ")"}
	next := row(7)
	well := 0
	for i := range 20000 {
		var s string
		open := 0
		for range i % 40 {
			part := parts[next()%uint64(len(parts))]
			switch {
			case part == "(":
				open++
			case part == ")" && open > 0:
				open--
			case part == ")":
				part = "b"
			}
			s += part
			if next()%200 == 0 {
				s += wrong[next()%uint64(len(wrong))]
			}
		}
		if next()%10 != 0 {
			s += strings.Repeat(")", open)
		}
		// A sign stands behind a |, or a bracket, too often else.
		if next()%4 != 0 {
			for _, sign := range []string{"*", "+", "?"} {
				s = strings.ReplaceAll(strings.ReplaceAll(s, "|"+sign, "|"), "("+sign, "(")
			}
		}
		if against(t, s) {
			well++
		}
	}
	if well < 3000 {
		t.Errorf("only %d of them are trees", well)
	}
}

// R3, R4: an answer is new memory, and the same each time.
func TestReadNew(t *testing.T) {
	got, _ := Read("a|b*")
	want := slices.Clone(got)
	got[0].Kind, got[3].Kids = api.REnd, [2]int{9, 9}
	again, e := Read("a|b*")
	if !slices.Equal(again, want) || e != api.OK {
		t.Errorf("Read again: %v %d", again, e)
	}
}
