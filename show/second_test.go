package show

import (
	"slices"
	"strings"
	"testing"

	"dragoman/api"
	"dragoman/shell"
)

// secondText is the text of commands that are right, told a second time: by formats in which ~ is the next of what a command has.
func secondText(l []api.Cmd) string {
	s := ""
	for i, c := range l {
		if i > 0 {
			s += "\n"
		}
		s += secondCmd(c)
	}
	return s
}

// format is a text with each ~ in it replaced by the next of these.
func format(s string, by ...string) string {
	pieces := strings.Split(s, "~")
	for i := range pieces[1:] {
		pieces[i] += by[i]
	}
	return strings.Join(pieces, "")
}

func secondCmd(c api.Cmd) string {
	a, b := secondText(c.A), secondText(c.B)
	switch {
	case c.Kind == api.CIf && len(c.C) == 0:
		return format("if ~\nthen\n~\nfi", a, b)
	case c.Kind == api.CIf:
		return format("if ~\nthen\n~\nelse\n~\nfi", a, b, secondText(c.C))
	case c.Kind == api.CWhile:
		return format("while ~\ndo\n~\ndone", a, b)
	case c.Kind == api.CFor:
		s := ""
		for _, x := range c.Words {
			s += " " + secondWord(x)
		}
		return format("for ~ in~\ndo\n~\ndone", c.Names[0], s, b)
	case c.Kind == api.CSimple:
		s := ""
		for i, name := range c.Names {
			s += format("~=~ ", name, secondWord(c.Values[i]))
		}
		for _, x := range c.Words {
			s += secondWord(x) + " "
		}
		return s[:len(s)-1]
	}
	s := ""
	for i := range c.A {
		if i > 0 {
			s += map[int]string{api.CPipe: " | ", api.COr: " || "}[c.Kind]
		}
		s += secondText(c.A[i : i+1])
	}
	return s
}

func secondWord(x api.Word) string {
	s := ""
	for _, p := range x.L {
		one := format(map[int]string{api.PLit: "~", api.PVar: "${~}", api.PElse: "${~:-~}", api.PLen: "${#~}", api.PHead: "${~#~}", api.PTail: "${~%~}", api.PArith: "$((~))", api.PCmd: "$(~~\n)"}[p.Kind], p.S, p.T+secondText(p.L))
		if p.Kind == api.PLit && p.Quoted {
			one = quotedBytes(p.S)
		} else if p.Quoted {
			one = `"` + one + `"`
		}
		s += one
	}
	return s
}

// maker makes commands that look stray, and are right.
type maker struct{ next func(below int) int }

// pick is one of these.
func (m *maker) pick(of ...string) string { return of[m.next(len(of))] }

// few is a number that is mostly small.
func (m *maker) few() int { return m.next(m.next(4) + 1) }

// list makes some lines, at least as many as told.
func (m *maker) list(least, deep int) []api.Cmd {
	var l []api.Cmd
	for range least + m.few() {
		c := m.command(deep)
		if m.next(5) == 0 {
			c = or(c, m.command(deep))
			for range m.few() {
				c.A = append(c.A, m.command(deep))
			}
		}
		l = append(l, c)
	}
	return l
}

// command makes a command of any kind, but no row with || between.
func (m *maker) command(deep int) api.Cmd {
	kind := m.next(9)
	if deep == 0 {
		kind = 3 + m.next(6)
	}
	switch kind {
	case 0:
		c := choose(m.list(1, deep-1), m.list(1, deep-1), nil)
		if m.next(2) == 0 {
			c.C = m.list(1, deep-1)
		}
		return c
	case 1:
		return while(m.list(1, deep-1), m.list(1, deep-1))
	case 2:
		return each1(m.name(), m.list(1, deep-1), m.words(0, deep-1)...)
	case 3:
		c := pipe(m.simple(1, deep), m.simple(1, deep))
		for range m.few() {
			c.A = append(c.A, m.simple(1, deep))
		}
		return c
	case 4, 5:
		c := m.simple(0, deep)
		for range 1 + m.few() {
			var value api.Word
			if m.next(4) > 0 {
				value = m.word(deep)
			}
			c = set(m.name(), value, c)
		}
		return c
	}
	return m.simple(1, deep)
}

// simple makes a simple command of words.
func (m *maker) simple(least, deep int) api.Cmd {
	c := cmd(m.words(least, deep)...)
	// A first word isn't one of the language's, and isn't one that assigns.
	if len(c.Words) > 0 && (isKey(ahead(c.Words[0])) || strings.Contains(ahead(c.Words[0]), "=")) {
		c.Words[0].L[0].S = m.pick("a", "=", "1=", "a-", "ifs", "+=if")
	}
	return c
}

func (m *maker) name() string { return m.pick("x", "y", "_", "x1", "if", "in", "Az_09", "done") }

// words makes words that are no values.
func (m *maker) words(least, deep int) []api.Word {
	var l []api.Word
	for range least + m.few() {
		x := m.word(deep)
		if strings.HasPrefix(ahead(x), "#") {
			x.L[0].S = "a" + x.L[0].S
		}
		l = append(l, x)
	}
	return l
}

// word makes a word.
func (m *maker) word(deep int) api.Word {
	l := []api.Part{m.part(deep)}
	for range m.few() {
		if p := m.part(deep); !areOne(l[len(l)-1], p) {
			l = append(l, p)
		}
	}
	return w(l...)
}

// part makes a part.
func (m *maker) part(deep int) api.Part {
	p := api.Part{Kind: 1 + m.next(8), Quoted: m.next(2) == 0}
	if m.next(2) == 0 || p.Kind == api.PCmd && deep == 0 {
		p.Kind = api.PLit
	}
	switch p.Kind {
	case api.PLit:
		p.S = m.pick("a", "b", "-", "x=", "x=1", "#", "a#b", "=", "if", "fi", "then", "do", "in", "9", "\x00\xff", "é", "+:%,./@!^_", "\r\v")
		if p.Quoted {
			p.S = m.pick("", "a", " ", "'", "\"", "a b", "$x", "\\", "`", "\n", "a\nb;c", "#", "$(a)", "\x00\xff", "é", "''", "\"\"", "${x}", "&|<>", "fi", "~", "x=1")
		}
	case api.PElse, api.PHead, api.PTail:
		p.S, p.T = m.name(), m.pick("", "a", "#", "%", "{", "a b", ":-", "(", ")", ";&|", "\t\xff", "-", "~*?[]<>")
	case api.PCmd:
		p.L = m.list(0, deep-1)
	case api.PArith:
		p.S = m.pick("", "1", "x + 1", "(1)", "()", "((1)+(2))*3", "a\nb", "1;#2", "{}[]~", "\xff", "1 < 2")
	default:
		p.S = m.name()
	}
	return p
}

// made are commands that look stray, and are right.
func made(seed uint64, deep int) []api.Cmd {
	m := &maker{next: stray(seed)}
	return m.list(0, deep)
}

// P12.2, P12.3, P12.4: stray commands that are right: their text is the one that is told a second time, and is read as they are.
func TestStray(t *testing.T) {
	t.Parallel()
	kinds := map[int]int{}
	for seed := range uint64(20000) {
		l := made(seed*7+1, int(seed%5))
		s := Text(l)
		if want := secondText(l); s != want {
			t.Fatalf("Text: %q, not %q", s, want)
		}
		if !Right(l) || !again(l) {
			t.Fatalf("%q: right is %v, as it is %v", s, Right(l), again(l))
		}
		for _, c := range l {
			kinds[c.Kind]++
			for _, x := range slices.Concat(c.Values, c.Words) {
				if got := Word(x); got != secondWord(x) {
					t.Fatalf("Word: %q, not %q", got, secondWord(x))
				}
			}
		}
	}
	for kind := api.CSimple; kind <= api.CFor; kind++ {
		if kinds[kind] < 300 {
			t.Errorf("too few of kind %d: %v", kind, kinds)
		}
	}
}

// all are pointers to all commands, words and parts.
type all struct {
	cmds  []*api.Cmd
	words []*api.Word
	parts []*api.Part
}

// collect adds those of a list.
func (a *all) collect(l []api.Cmd) {
	for i := range l {
		c := &l[i]
		a.cmds = append(a.cmds, c)
		for _, row := range [][]api.Word{c.Values, c.Words} {
			for k := range row {
				a.words = append(a.words, &row[k])
				for n := range row[k].L {
					a.parts = append(a.parts, &row[k].L[n])
					a.collect(row[k].L[n].L)
				}
			}
		}
		a.collect(c.A)
		a.collect(c.B)
		a.collect(c.C)
	}
}

// change changes something in a command, which may be wrong then.
func (m *maker) change(c *api.Cmd) {
	some := func() []api.Cmd { return m.list(0, 1) }
	switch m.next(12) {
	case 0:
		c.Kind = m.next(9) - 1
	case 1:
		c.Names = append(slices.Clone(c.Names), m.pick("x", "1", ""))
	case 2:
		c.Names = c.Names[:len(c.Names)/2]
	case 3:
		c.Values = append(slices.Clone(c.Values), m.word(1))
	case 4:
		c.Values = c.Values[:len(c.Values)/2]
	case 5:
		c.Words = append([]api.Word{m.word(1)}, c.Words...)
	case 6:
		c.Words = c.Words[:len(c.Words)/2]
	case 7:
		c.A = some()
	case 8:
		c.B = some()
	case 9:
		c.C = some()
	case 10:
		c.A = c.A[:len(c.A)/2]
	default:
		if len(c.Names) > 0 {
			c.Names = append([]string{m.pick("x", "1", "", "a b", "x=", "if")}, c.Names[1:]...)
		}
	}
}

// changePart changes something in a part.
func (m *maker) changePart(p *api.Part) {
	piece := m.pick(" ", "\n", ";", "|", "<", "(", ")", "\"", "'", "`", "$", "\\", "*", "?", "[", "{", "}", "~", "#", "=", "a", "1", "x=", "if", "\t", "&", "\xff")
	at := m.next(len(p.S) + 1)
	switch m.next(8) {
	case 0:
		p.Kind = m.next(11) - 1
	case 1:
		p.Quoted = !p.Quoted
	case 2:
		p.S = p.S[:at] + piece + p.S[at:]
	case 3:
		p.S = p.S[at:]
	case 4:
		p.S = piece
	case 5:
		p.T += piece
	case 6:
		p.L = m.list(0, 1)
	default:
		*p = m.part(1)
	}
}

// changeWord changes something in a word.
func (m *maker) changeWord(x *api.Word) {
	at := m.next(len(x.L) + 1)
	switch m.next(3) {
	case 0:
		x.L = x.L[at:]
	case 1:
		x.L = x.L[:at]
	default:
		x.L = slices.Insert(slices.Clone(x.L), at, m.part(1))
	}
}

// P12.3: stray commands with something changed: they are right just if their text is read as they are.
func TestStrayChanged(t *testing.T) {
	t.Parallel()
	many := map[bool]int{}
	for seed := range uint64(60000) {
		l := made(seed*5+3, int(seed%4))
		m := &maker{next: stray(seed)}
		for range 1 + m.next(2) {
			var a all
			a.collect(l)
			switch what := m.next(3); {
			case what == 0 && len(a.parts) > 0:
				m.changePart(a.parts[m.next(len(a.parts))])
			case what == 1 && len(a.words) > 0:
				m.changeWord(a.words[m.next(len(a.words))])
			case len(a.cmds) > 0:
				m.change(a.cmds[m.next(len(a.cmds))])
			}
		}
		is := Right(l)
		many[is]++
		if is != again(l) {
			t.Fatalf("Right of %q, %v: %v", Text(l), l, is)
		}
		if is && Text(l) != secondText(l) {
			t.Fatalf("Text: %q, not %q", Text(l), secondText(l))
		}
	}
	if many[true] < 5000 || many[false] < 5000 {
		t.Errorf("too few of a kind: %v", many)
	}
}

// P12.3: commands of each kind with each few of what a command may have: right just if their text is read as they are.
func TestShapes(t *testing.T) {
	t.Parallel()
	a, b, x := plain("a"), plain("b"), w(lit("1"))
	many := map[bool]int{}
	lists := [][]api.Cmd{nil, {a}, {a, b}, {set("x", x, a), b}, {or(a, b), a}, {pipe(a, b), choose(list(a), list(b), nil)}, {{}}}
	for kind := -1; kind <= 7; kind++ {
		for _, names := range [][]string{nil, {"x"}, {"x", "y"}, {"1"}, {""}} {
			for _, values := range [][]api.Word{nil, {x}, {{}}, {x, {}}} {
				for _, words := range [][]api.Word{nil, {x}, {{}}, {x, w(quo(""))}, {w(lit("if"))}} {
					for _, in1 := range lists {
						for _, in2 := range lists[:5] {
							for _, in3 := range lists[:3] {
								l := list(api.Cmd{Kind: kind, Names: names, Values: values, Words: words, A: in1, B: in2, C: in3})
								is := Right(l)
								many[is]++
								if is != again(l) {
									t.Fatalf("Right of %q, %v: %v", Text(l), l, is)
								}
							}
						}
					}
				}
			}
		}
	}
	if many[true] < 100 || many[false] < 50000 {
		t.Errorf("too few of a kind: %v", many)
	}
}

// P12.3: words of each few of these parts, wherever a word may stand: right just if their text is read as they are.
func TestShapesOfWords(t *testing.T) {
	t.Parallel()
	parts := []api.Part{lit("a"), lit("#"), lit("x="), lit("if"), lit(""), quo(""), quo("a"), quo("="), of(api.PVar, "x", ""), in(of(api.PVar, "if", "")), of(api.PLen, "", ""), in(of(api.PElse, "x", "=")), of(api.PTail, "x", "}"), out(), in(out(plain("a"))), of(api.PArith, "(", ""), of(api.PArith, "1", "")}
	rows := [][]api.Part{nil}
	many := map[bool]int{}
	for at := 0; at < len(rows); at++ {
		if len(rows[at]) < 3 {
			for _, p := range parts {
				rows = append(rows, append(slices.Clone(rows[at]), p))
			}
		}
		for _, c := range around(rows[at]...) {
			is := Right(list(c))
			many[is]++
			if is != again(list(c)) {
				t.Fatalf("Right of %q, %v: %v", Text(list(c)), c, is)
			}
		}
	}
	if many[true] < 10000 || many[false] < 10000 {
		t.Errorf("too few of a kind: %v", many)
	}
}

// R3, R4: what is handed in is as it was, and what a call answers hangs on that alone.
func TestAgain(t *testing.T) {
	t.Parallel()
	for seed := range uint64(500) {
		l, kept, other := made(seed*3+1, 3), made(seed*3+1, 3), made(seed*3+2, 3)
		if seed%2 == 0 && len(l) > 0 {
			l[0].Kind, kept[0].Kind = 7, 7
		}
		s, is := Text(l), Right(l)
		for range 2 {
			Text(other)
			Right(other)
			if Text(l) != s || Right(l) != is || !shell.Same(l, kept) {
				t.Fatalf("%q: not as at first", s)
			}
		}
	}
}
