package regex

import (
	"slices"
	"strings"
	"testing"

	"dragoman/api"
	"dragoman/class"
)

// P5.2: a tree's text.
func TestText(t *testing.T) {
	a, b, c, d := set("a"), set("b"), set("c"), set("d")
	none, begin, end := one(api.RNone), one(api.RBegin), one(api.REnd)
	cat := func(first []api.Re, l ...[]api.Re) []api.Re { return left(api.RCat, first, l...) }
	alt := func(first []api.Re, l ...[]api.Re) []api.Re { return left(api.RAlt, first, l...) }
	star := func(t []api.Re) []api.Re { return over(api.RStar, t) }
	plus := func(t []api.Re) []api.Re { return over(api.RPlus, t) }
	opt := func(t []api.Re) []api.Re { return over(api.ROpt, t) }
	for _, x := range []struct {
		t []api.Re
		s string
	}{
		// Without kids.
		{none, "()"},
		{begin, "^"},
		{end, "$"},
		{a, "a"},
		{set(" "), " "},
		{set("_"), "_"},
		{set("0"), "0"},
		{set("\n"), `\x0a`},
		{set("\x00"), `\x00`},
		{set("\xff"), `\xff`},
		{set("."), `\x2e`},
		{set("^"), `\x5e`},
		{set("$"), `\x24`},
		{set("*"), `\x2a`},
		{set("/"), `\x2f`},
		{set(`\`), `\x5c`},
		{set("["), `\x5b`},
		{set("]"), `\x5d`},
		{set("-"), `\x2d`},
		{set("ab"), "[ab]"},
		{set("abc"), "[a-c]"},
		{set("abc/"), `[\x2fa-c]`},
		{set("]^"), `[\x5d\x5e]`},
		{in(dull()), "."},
		{in(api.Class{}), `[^\x00-\xff]`},
		{in(class.Not(api.Class{})), `[\x00-\xff]`},
		{in(class.Not(class.One('\r'))), `[\x00-\x0c\x0e-\xff]`},
		{in(class.Not(class.Or(class.One('\n'), class.One('a')))), "[\\x00-\\x09\\x0b-\\x60b-\\xff]"},
		{in(class.Span(0, 9)), `[\x00-\x09]`},
		// Kids that stand as they are.
		{star(a), "a*"},
		{plus(a), "a+"},
		{opt(a), "a?"},
		{opt(plus(star(a))), "a*+?"},
		{star(star(a)), "a**"},
		{star(none), "()*"},
		{plus(begin), "^+"},
		{opt(end), "$?"},
		{star(set("ab")), "[ab]*"},
		{star(in(dull())), ".*"},
		{plus(set("+")), `\x2b+`},
		{cat(a, b), "ab"},
		{cat(a, b, c, d), "abcd"},
		{cat(begin, a, end), "^a$"},
		{cat(star(a), plus(b), opt(c)), "a*b+c?"},
		{cat(none, none), "()()"},
		{cat(a, none), "a()"},
		{alt(a, b), "a|b"},
		{alt(a, b, c, d), "a|b|c|d"},
		{alt(none, none), "()|()"},
		{alt(a, none, b), "a|()|b"},
		{alt(cat(a, b), cat(c, d)), "ab|cd"},
		{alt(star(a), star(b)), "a*|b*"},
		{alt(a, cat(b, c), d), "a|bc|d"},
		// Kids that stand in brackets.
		{alt(a, alt(b, c)), "a|(b|c)"},
		{alt(a, alt(b, alt(c, d))), "a|(b|(c|d))"},
		{alt(alt(a, b), alt(c, d)), "a|b|(c|d)"},
		{cat(a, cat(b, c)), "a(bc)"},
		{cat(a, cat(b, cat(c, d))), "a(b(cd))"},
		{cat(cat(a, b), cat(c, d)), "ab(cd)"},
		{cat(alt(a, b), c), "(a|b)c"},
		{cat(a, alt(b, c)), "a(b|c)"},
		{cat(alt(a, b), alt(c, d)), "(a|b)(c|d)"},
		{cat(a, alt(b, c), d), "a(b|c)d"},
		{star(alt(a, b)), "(a|b)*"},
		{plus(alt(a, b)), "(a|b)+"},
		{opt(alt(a, b)), "(a|b)?"},
		{star(cat(a, b)), "(ab)*"},
		{plus(cat(a, b)), "(ab)+"},
		{opt(cat(a, b)), "(ab)?"},
		{opt(star(cat(a, b))), "(ab)*?"},
		{cat(a, star(cat(b, c))), "a(bc)*"},
		{star(cat(alt(a, b), c)), "((a|b)c)*"},
		{alt(a, star(alt(b, c))), "a|(b|c)*"},
		{star(alt(none, a)), "(()|a)*"},
	} {
		if s := Text(x.t); s != x.s {
			t.Errorf("Text of %v: %s, not %s", x.t, s, x.s)
		}
		if got, e := Read(x.s); !slices.Equal(got, x.t) || e != api.OK {
			t.Errorf("Read(%q): %v %d, not %v", x.s, got, e, x.t)
		}
	}
}

// P5.2: of all bytes but 10 a point, of none all others' others, of one its Plain, of more the class's text.
func TestTextSets(t *testing.T) {
	for a := range 256 {
		for b := range 256 {
			for _, k := range []api.Class{class.Span(byte(a), byte(b)), class.Not(class.Span(byte(a), byte(b))), class.Or(class.One(byte(a)), class.One(byte(b)))} {
				want := class.Text(k)
				switch {
				case class.Count(k) == 0:
					want = `[^\x00-\xff]`
				case class.Count(k) == 255 && !class.Has(k, '\n'):
					want = "."
				case class.Has(k, byte(a)) && class.Count(k) == 1:
					want = class.Plain(byte(a))
				case k == class.One(0):
					want = `\x00`
				case k == class.One(255):
					want = `\xff`
				}
				if s := Text(in(k)); s != want {
					t.Fatalf("Text of %x: %s, not %s", k, s, want)
				}
			}
		}
	}
}

// wantText is what Text tells: of each node in order, from the first one on.
func wantText(t []api.Re) string {
	l := make([]string, len(t))
	kid := func(at int, kinds ...int) string {
		if slices.Contains(kinds, t[at].Kind) {
			return "(" + l[at] + ")"
		}
		return l[at]
	}
	for i, n := range t {
		switch n.Kind {
		case api.RNone:
			l[i] = "()"
		case api.RBegin:
			l[i] = "^"
		case api.REnd:
			l[i] = "$"
		case api.RSet:
			l[i] = class.Text(n.Set)
			switch {
			case n.Set == dull():
				l[i] = "."
			case class.Count(n.Set) == 0:
				l[i] = `[^\x00-\xff]`
			case class.Count(n.Set) == 1:
				l[i] = strings.Trim(l[i], "[]")
			}
		case api.RStar, api.RPlus, api.ROpt:
			l[i] = kid(n.Kids[0], api.RAlt, api.RCat) + "*+?"[n.Kind-api.RStar:][:1]
		case api.RCat:
			l[i] = kid(n.Kids[0], api.RAlt) + kid(n.Kids[1], api.RAlt, api.RCat)
		case api.RAlt:
			l[i] = l[n.Kids[0]] + "|" + kid(n.Kids[1], api.RAlt)
		}
	}
	return l[len(l)-1]
}

// needless is a pair of brackets without which a text would be read as it is, or "".
func needless(s string, t []api.Re) string {
	var open []int
	for i := range len(s) {
		switch s[i] {
		case '(':
			open = append(open, i)
		case ')':
			at := open[len(open)-1]
			open = open[:len(open)-1]
			// Those with nothing between are a node's text.
			if at == i-1 {
				continue
			}
			if got, e := Read(s[:at] + s[at+1:i] + s[i+1:]); e == api.OK && slices.Equal(got, t) {
				return s[at : i+1]
			}
		}
	}
	return ""
}

// P5.2, P5.4: each small tree's text, which is read again as it was, and has no brackets that it doesn't need.
func TestToldAndRead(t *testing.T) {
	for _, x := range forest(6) {
		s := Text(x)
		if want := wantText(x); s != want {
			t.Fatalf("Text of %v: %s, not %s", x, s, want)
		}
		if got, e := Read(s); !slices.Equal(got, x) || e != api.OK {
			t.Fatalf("Read(%q): %v %d, not %v", s, got, e, x)
		}
		if pair := needless(s, x); pair != "" {
			t.Fatalf("Text of %v: %s, where %s needs no brackets", x, s, pair)
		}
	}
}

// nested is how deep a text's brackets are, of which none stand in a class.
func nested(s string) int {
	deep, most := 0, 0
	for i := range len(s) {
		switch s[i] {
		case '(':
			deep++
			most = max(most, deep)
		case ')':
			deep--
		}
	}
	return most
}

// P5.2, P5.4: of trees that look stray.
func TestToldAndReadStray(t *testing.T) {
	next := row(9)
	deep := 0
	for i := range 4000 {
		x := stray(next, 1+i%150)
		was := slices.Clone(x)
		s := Text(x)
		if want := wantText(x); s != want {
			t.Fatalf("Text of %v: %s, not %s", x, s, want)
		}
		// R3: what is handed in is as it was.
		if !slices.Equal(x, was) {
			t.Fatalf("Text wrote into %v: %v", was, x)
		}
		got, e := Read(s)
		if nested(s) > 30 {
			deep++
			if len(got) != 0 || e != api.ErrDeep {
				t.Fatalf("Read(%q): %v %d", s, got, e)
			}
			continue
		}
		if !slices.Equal(got, x) || e != api.OK {
			t.Fatalf("Read(%q): %v %d, not %v", s, got, e, x)
		}
	}
	if deep > 2000 {
		t.Errorf("%d of them are too deep", deep)
	}
}

// P5.2, P5.4: a text that is too deep to be read, and one that isn't yet.
func TestTextDeep(t *testing.T) {
	a := set("a")
	for kind, mark := range map[int]string{api.RAlt: "|", api.RCat: ""} {
		x := pair(kind, a, a)
		for n := range 400 {
			want := strings.Repeat("a"+mark+"(", n) + "a" + mark + "a" + strings.Repeat(")", n)
			s := Text(x)
			if s != want {
				t.Fatalf("Text of %d in one another: %s", n, s)
			}
			got, e := Read(s)
			if well := slices.Equal(got, x) && e == api.OK; n <= 30 && !well {
				t.Errorf("Read(%q): %d", s, e)
			}
			if wrong := len(got) == 0 && e == api.ErrDeep; n > 30 && !wrong {
				t.Errorf("Read(%q): %d", s, e)
			}
			x = pair(kind, a, x)
		}
	}
}

// P5.2, P5.4: of as many nodes as may be.
func TestTextBig(t *testing.T) {
	for _, s := range []string{
		"a" + strings.Repeat("*", 1999),
		"()" + strings.Repeat("?", 1999),
		strings.Repeat("[ab]", 1000) + "+",
		"(" + strings.Repeat("a|", 999) + "a)?",
		strings.Repeat("()|", 998) + "()|a*",
		strings.Repeat("(a|b)", 500) + "*",
	} {
		x, e := Read(s)
		if len(x) != 2000 || e != api.OK {
			t.Errorf("Read(%.20q): %d nodes, %d", s, len(x), e)
		}
		if text := Text(x); text != s {
			t.Errorf("Text of %.20q: %.40q", s, text)
		}
	}
}

// P5.4: what is read, told, and read again is the same.
func TestReadToldAndRead(t *testing.T) {
	for _, s := range slices.Concat(texts("a|()*[\\].", 5), texts("a|()*", 7)) {
		x, e := Read(s)
		if e != api.OK {
			continue
		}
		if got, e := Read(Text(x)); !slices.Equal(got, x) || e != api.OK {
			t.Fatalf("Read(%q), the text of %q: %v %d, not %v", Text(x), s, got, e, x)
		}
	}
}

// A row that is no tree has no text, and no call of it fails.
func TestTextOfNoTree(t *testing.T) {
	for _, x := range [][]api.Re{
		nil,
		{{Kind: 9}},
		{{Kind: api.RStar}},
		{{Kind: api.RCat}},
		{{Kind: api.RAlt, Kids: [2]int{-1, 1 << 62}}},
		{{Kind: api.RNone}, {Kind: api.RPlus, Kids: [2]int{1, 0}}},
		{{Kind: api.RNone}, {Kind: api.RNone}},
		make([]api.Re, 3000),
	} {
		if s := Text(x); s != "" {
			t.Errorf("Text of %.3v: %s", x, s)
		}
	}
}
