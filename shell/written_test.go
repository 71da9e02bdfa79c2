package shell

import (
	"strings"
	"testing"

	"dragoman/api"
)

// maker makes commands that look stray, and writes them in one of the many ways that the chapter lets stand.
type maker struct {
	next func(below int) int
	out  strings.Builder
}

// pick is one of these.
func (m *maker) pick(of ...string) string { return of[m.next(len(of))] }

// few is a number that is mostly small.
func (m *maker) few() int { return m.next(m.next(4) + 1) }

// list makes some lines, at least as many as told.
func (m *maker) list(least, deep int) []api.Cmd {
	var l []api.Cmd
	for range least + m.few() {
		l = append(l, m.line(deep))
	}
	return l
}

// line makes a line.
func (m *maker) line(deep int) api.Cmd {
	var l []api.Cmd
	for range 1 + m.next(3)/2 + m.next(3)/2 {
		l = append(l, m.pipe(deep))
	}
	if len(l) == 1 {
		return l[0]
	}
	return api.Cmd{Kind: api.COr, A: l}
}

// pipe makes a pipe, or a command.
func (m *maker) pipe(deep int) api.Cmd {
	if m.next(4) > 0 {
		return m.command(deep)
	}
	c := api.Cmd{Kind: api.CPipe}
	for range 2 + m.few() {
		c.A = append(c.A, m.simple(false, deep))
	}
	return c
}

// command makes a command of any kind.
func (m *maker) command(deep int) api.Cmd {
	if deep > 0 {
		switch m.next(8) {
		case 0:
			c := api.Cmd{Kind: api.CIf, A: m.list(1, deep-1), B: m.list(1, deep-1)}
			if m.next(2) == 0 {
				c.C = m.list(1, deep-1)
			}
			return c
		case 1:
			return api.Cmd{Kind: api.CWhile, A: m.list(1, deep-1), B: m.list(1, deep-1)}
		case 2:
			return api.Cmd{Kind: api.CFor, Names: []string{m.name()}, Words: m.words(0, deep-1), B: m.list(1, deep-1)}
		}
	}
	return m.simple(m.next(2) == 0, deep)
}

// simple makes a simple command, maybe with names.
func (m *maker) simple(names bool, deep int) api.Cmd {
	c := api.Cmd{Kind: api.CSimple}
	for names && (len(c.Names) == 0 || m.next(3) == 0) {
		c.Names = append(c.Names, m.name())
		var w api.Word
		if m.next(4) > 0 {
			w = m.word(deep, true)
		}
		c.Values = append(c.Values, w)
	}
	for least := 1 - min(len(c.Names), 1); ; {
		c.Words = m.words(least, deep)
		// A first word isn't one of the language's, and isn't one that assigns.
		if len(c.Words) == 0 || c.Words[0].L[0].Kind != api.PLit || c.Words[0].L[0].Quoted {
			return c
		}
		first := c.Words[0].L[0].S
		name, _, is := strings.Cut(first, "=")
		if !(is && aheadName.MatchString(name)) && !(len(c.Words[0].L) == 1 && isKey(first)) {
			return c
		}
	}
}

var aheadName = ahead(secondName + "$")

// name makes a name.
func (m *maker) name() string { return m.pick("x", "y", "_", "x1", "if", "in", "Az_09", "done") }

// words makes words.
func (m *maker) words(least, deep int) []api.Word {
	var l []api.Word
	for range least + m.few() {
		l = append(l, m.word(deep, false))
	}
	return l
}

// word makes a word, or a value.
func (m *maker) word(deep int, value bool) api.Word {
	var w api.Word
	for range 1 + m.few() {
		p := m.part(deep)
		if n := len(w.L); n > 0 && p.Kind == api.PLit && w.L[n-1].Kind == api.PLit && w.L[n-1].Quoted == p.Quoted {
			continue
		}
		if len(w.L) == 0 && !value && p.Kind == api.PLit && !p.Quoted {
			p.S = strings.TrimLeft(p.S, "#") + "a"
		}
		w.L = append(w.L, p)
	}
	return w
}

// part makes a part.
func (m *maker) part(deep int) api.Part {
	p := api.Part{Kind: 1 + m.next(8), Quoted: m.next(2) == 0}
	if m.next(2) == 0 || p.Kind == api.PCmd && deep == 0 {
		p.Kind = api.PLit
	}
	switch p.Kind {
	case api.PLit:
		if p.Quoted {
			p.S = m.pick("", "a", " ", "'", "\"", "a b", "$x", "\\", "`", "\n", "a\nb;c", "#", "$(a)", "\x00\xff", "é", "''", "\"\"", "${x}", "&|<>", "fi")
		} else {
			p.S = m.pick("a", "b", "-", "x=", "x=1", "#", "a#b", "=", "if", "fi", "then", "do", "in", "9", "\x00\xff", "é", "+:%,./@!^_")
		}
	case api.PElse, api.PHead, api.PTail:
		p.S, p.T = m.name(), m.pick("", "a", "#", "%", "{", "a b", ":-", "(", ")", ";&|", "\t\xff", "-")
	case api.PCmd:
		p.L = m.list(0, deep-1)
	case api.PArith:
		p.S = m.pick("", "1", "x + 1", "(1)", "()", "((1)+(2))*3", "a\nb", "1;#2", "{}[]~", "\xff", "1 < 2")
	default:
		p.S = m.name()
	}
	return p
}

// say puts a text out.
func (m *maker) say(s string) { m.out.WriteString(s) }

// blank is one or more blanks.
func (m *maker) blank() { m.say(m.pick(" ", " ", " ", "\t", "  ", " \t ")) }

// gap is any blanks.
func (m *maker) gap() { m.say(m.pick("", "", "", "", " ", "\t", " \t")) }

// line10 is a byte 10, maybe with a remark ahead of it, behind a blank.
func (m *maker) line10() {
	m.say(m.pick("", "", "", "", "", " # a", " #", "\t#'\"$(`;|&fi", " # \xff\\") + "\n")
	m.gap()
}

// end is an end.
func (m *maker) end() {
	if m.next(2) == 0 {
		m.line10()
	} else {
		m.gap()
		m.say(";")
		m.gap()
	}
}

// ends are any ends, at least as many as told.
func (m *maker) ends(least int) {
	for range least + m.few()*m.next(2) {
		m.end()
	}
}

// writeList writes a list; a blank, or an end, is behind it if there are lines.
func (m *maker) writeList(l []api.Cmd, last int) {
	m.gap()
	m.ends(0)
	for i, c := range l {
		m.writeCmd(c)
		if i < len(l)-1 {
			m.ends(1)
			continue
		}
		// No end is needed behind what ends with fi or done.
		if last > 0 && m.closed(c) && m.next(3) == 0 {
			m.blank()
			return
		}
		m.ends(last)
	}
	m.gap()
}

// closed: does no word belong to it any more, if one stands behind?
func (m *maker) closed(c api.Cmd) bool {
	for c.Kind == api.COr {
		c = c.A[len(c.A)-1]
	}
	return c.Kind != api.CSimple && c.Kind != api.CPipe
}

// writeKey writes a word of the language with what may stand behind it.
func (m *maker) writeKey(key string) {
	m.say(key)
	if m.next(2) == 0 {
		m.blank()
	} else {
		m.end()
	}
}

// writeCmd writes a command.
func (m *maker) writeCmd(c api.Cmd) {
	switch c.Kind {
	case api.CPipe, api.COr:
		for i, one := range c.A {
			if i > 0 {
				m.gap()
				m.say(map[int]string{api.CPipe: "|", api.COr: "||"}[c.Kind])
				for range m.few() * m.next(2) {
					m.line10()
				}
				m.gap()
			}
			m.writeCmd(one)
		}
	case api.CIf:
		m.writeKey("if")
		m.writeList(c.A, 1)
		m.writeKey("then")
		m.writeList(c.B, 1)
		if len(c.C) > 0 {
			m.writeKey("else")
			m.writeList(c.C, 1)
		}
		m.say("fi")
	case api.CWhile:
		m.writeKey("while")
		m.writeList(c.A, 1)
		m.writeKey("do")
		m.writeList(c.B, 1)
		m.say("done")
	case api.CFor:
		m.say("for")
		m.blank()
		m.say(c.Names[0])
		m.blank()
		m.say("in")
		for _, w := range c.Words {
			m.blank()
			m.writeWord(w)
		}
		m.ends(1)
		m.writeKey("do")
		m.writeList(c.B, 1)
		m.say("done")
	default:
		m.writeSimple(c)
	}
}

// writeSimple writes a simple command.
func (m *maker) writeSimple(c api.Cmd) {
	for i, name := range c.Names {
		if i > 0 {
			m.blank()
		}
		m.say(name + "=")
		m.writeWord(c.Values[i])
	}
	for i, w := range c.Words {
		if i > 0 || len(c.Names) > 0 {
			m.blank()
		}
		m.writeWord(w)
	}
}

// writeWord writes a word: what is quoted in any of the ways to quote it.
func (m *maker) writeWord(w api.Word) {
	double := false // between "?
	turn := func(to bool) {
		if double != to {
			m.say(`"`)
		}
		double = to
	}
	for i, p := range w.L {
		switch {
		case p.Kind == api.PLit && p.Quoted:
			m.writeQuoted(p.S, &double)
			// A literal may go on behind its quotes.
			if m.next(3) == 0 {
				turn(false)
				m.say(m.pick(`""`, `''`))
			}
		case p.Kind == api.PLit:
			turn(false)
			m.say(p.S)
		default:
			// Between " again with nothing there would be a literal.
			turn(p.Quoted)
			m.writePart(p, i+1 < len(w.L))
		}
	}
	turn(false)
}

// writeQuoted writes a literal that is quoted, byte by byte or run by run.
func (m *maker) writeQuoted(s string, double *bool) {
	if s == "" {
		if *double {
			m.say(`"`)
			*double = false
		}
		m.say(m.pick(`''`, `""`, `""''`))
	}
	for s != "" {
		many := 1 + m.next(len(s))
		run := s[:many]
		switch way := m.next(4); {
		case *double || way == 0:
			if !*double {
				m.say(`"`)
			}
			m.say(strings.NewReplacer(`"`, `\"`, `$`, `\$`, `\`, `\\`, "`", "\\`").Replace(run))
			*double = true
			if m.next(2) == 0 {
				m.say(`"`)
				*double = false
			}
		case way == 1 && !strings.Contains(run, "'"):
			m.say("'" + run + "'")
		case !strings.Contains(run, "\n"):
			for _, c := range []byte(run) {
				m.say(`\` + string([]byte{c}))
			}
		default:
			continue
		}
		s = s[many:]
	}
}

// writePart writes a part with $.
func (m *maker) writePart(p api.Part, more bool) {
	switch p.Kind {
	case api.PVar:
		// With more behind, a byte of it might be one of the name's.
		if m.next(2) == 0 && !more {
			m.say("$" + p.S)
		} else {
			m.say("${" + p.S + "}")
		}
	case api.PElse:
		m.say("${" + p.S + ":-" + p.T + "}")
	case api.PHead:
		m.say("${" + p.S + "#" + p.T + "}")
	case api.PTail:
		m.say("${" + p.S + "%" + p.T + "}")
	case api.PLen:
		m.say("${#" + p.S + "}")
	case api.PArith:
		m.say("$((" + p.S + "))")
	case api.PCmd:
		m.say("$(")
		m.writeList(p.L, 0)
		m.say(")")
	}
}

// written is a list, and a text of it.
func written(seed uint64, deep int) ([]api.Cmd, string) {
	m := &maker{next: row(seed)}
	l := m.list(0, deep)
	m.writeList(l, 0)
	return l, m.out.String()
}

// P11.1: commands that are written in any of the ways are read again.
func TestWritten(t *testing.T) {
	t.Parallel()
	kinds := map[int]int{}
	for seed := range uint64(20000) {
		l, s := written(seed*7+1, int(seed%5))
		k, e := Read(s)
		if e != api.OK || !Same(k, l) || told(k) != told(l) || Count(k) != Count(l) {
			t.Fatalf("Read(%q): %d, %s, not %s", s, e, told(k), told(l))
		}
		for _, c := range l {
			kinds[c.Kind]++
		}
	}
	for kind := api.CSimple; kind <= api.CFor; kind++ {
		if kinds[kind] < 300 {
			t.Errorf("too few of kind %d: %v", kind, kinds)
		}
	}
}

// broken are texts with something put in, taken out, or put in its place.
func broken(next func(below int) int, s string) []string {
	pieces := []string{"a", " ", "\n", ";", "|", "||", "#", "'", "\"", "\\", "$", "$x", "$(", ")", "$((", "))", "(", "{", "}", "${", "${x:-", "&", "`", "=", "x=", "x=1 ", "if ", "; then ", " then ", "; fi", " fi ", "\nelse ", "while ", ";do ", " done", "for ", "for x in ", " in ", "*", "\x00", "\xff", "1"}
	at := next(len(s) + 1)
	upto := at + min(next(4), len(s)-at)
	far := at + next(len(s)-at+1)
	piece := pieces[next(len(pieces))]
	return []string{s[:at] + piece + s[at:], s[:at] + piece + s[upto:], s[:at] + s[upto:], s[:at], s[:at] + s[far:], s[:far] + s[at:]}
}

// P11.1: stray scripts, as they are and broken, against the second reading.
func TestStray(t *testing.T) {
	t.Parallel()
	next := row(3)
	many := map[api.Errno]int{}
	for seed := range uint64(3000) {
		_, s := written(seed*5+2, int(seed%4))
		many[alike(t, s)]++
		for range 3 {
			for _, u := range broken(next, s) {
				many[alike(t, u)]++
			}
		}
	}
	if many[api.OK] < 3000 || many[api.ErrSyntax] < 3000 {
		t.Errorf("too few of a kind: %v", many)
	}
}

// P11.1: likewise, so deep that some are too deep.
func TestStrayDeep(t *testing.T) {
	t.Parallel()
	next := row(4)
	many := map[api.Errno]int{}
	for seed := range uint64(1000) {
		ahead, behind := nest(24+next(8), seed+1)
		_, inner := written(seed*3+1, int(seed%4))
		if inner = strings.TrimLeft(inner, " \t\n;"); inner == "" {
			inner = "a"
		}
		s := ahead + inner + "\n" + behind
		many[alike(t, s)]++
		for range 2 {
			for _, u := range broken(next, s) {
				many[alike(t, u)]++
			}
			// Where it is deepest.
			for _, u := range broken(next, inner) {
				many[alike(t, ahead+u+"\n"+behind)]++
			}
		}
	}
	for _, e := range []api.Errno{api.OK, api.ErrSyntax, api.ErrDeep} {
		if many[e] < 1000 {
			t.Errorf("too few of a kind: %v", many)
		}
	}
}

// P11.2: two stray scripts with byte 10 between are both.
func TestStrayJoin(t *testing.T) {
	t.Parallel()
	for seed := range uint64(4000) {
		a, s := written(seed*11+1, int(seed%3))
		b, u := written(seed*13+5, int(seed%4))
		both, e := Read(s + "\n" + u)
		if e != api.OK || !Same(both, append(append([]api.Cmd{}, a...), b...)) {
			t.Fatalf("%q and %q: %d, %s", s, u, e, told(both))
		}
	}
}
