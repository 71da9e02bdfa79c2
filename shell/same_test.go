package shell

import (
	"strings"
	"testing"

	"dragoman/api"
)

// script is a text's commands.
func script(t *testing.T, s string) []api.Cmd {
	t.Helper()
	l, e := Read(s)
	if e != api.OK {
		t.Fatalf("Read(%q): %d", s, e)
	}
	return l
}

// P11.1: texts that are the same commands, and texts that are others.
func TestSame(t *testing.T) {
	groups := [][]string{
		{"", " ", "\n;", "# a"},
		{"a", " a\t", "a;", ";\na #b", "a\n\n"},
		{"a;a", "a\na"},
		{"a a", "a\ta", "a  a "},
		{"'a'", "\"a\"", "\\a", "\"\"'a'", "'a'''"},
		{"a ''", "a \"\"", "a ''\"\"", "a\t''''"},
		{"a'b'", "a\\b", "a\"b\"", "a''\"b\""},
		{"'a'b"}, {"ab"}, {"'ab'", "'a''b'", "\\a\"b\""}, {"a''b"},
		{"$x", "${x}"}, {"\"$x\"", "\"${x}\""}, {"$y"}, {"'$x'", "\\$'x'", "\"\\$x\""},
		{"$x$x", "${x}${x}"}, {"$x $x"}, {"\"$x\"$x"}, {"$x\"$x\""}, {"\"$x$x\"", "\"$x\"\"$x\""}, {"\"$x\"''\"$x\""},
		{"${x:-}"}, {"${x#}"}, {"${x%}"}, {"${#x}"}, {"${x:-a}"}, {"${x:-b}"}, {"${x#a}"}, {"${x%a}"}, {"${y:-a}"}, {"\"${x:-a}\""},
		{"$((x))"}, {"\"$((x))\""}, {"$(( x))"}, {"$(())"}, {"$((y))"},
		{"$(x)", "$( x;)", "$(\nx\n)"}, {"\"$(x)\""}, {"$()", "$( )"}, {"$(x;x)"}, {"$(x|x)"}, {"$($(x))"}, {"$('x')"}, {"$(x=)"},
		{"x="}, {"x=''", "x=\"\""}, {"y="}, {"x= y="}, {"x= y"}, {"y= x="}, {"x=y"}, {"x='y'"}, {"x=$y"}, {"x=y z"}, {"y=x z"}, {"x=z y"}, {"x=y z=y"},
		{"a|b", "a | b", "a|\n#\nb"}, {"b|a"}, {"a|b|b"}, {"a||b", "a ||\n\nb"}, {"a||b||b"}, {"a|b||c"}, {"a||b|c"},
		{"if a;then b;fi", "if\na\nthen\nb\nfi;"}, {"if b;then a;fi"}, {"if a;then b;else c;fi"}, {"if a;then c;else b;fi"}, {"if a;then b;b;fi"}, {"if a;b;then b;fi"}, {"if a;then b;else b;fi"},
		{"while a;do b;done", "while a\ndo b\ndone"}, {"while b;do a;done"}, {"while a;do b;b;done"}, {"while a;b;do b;done"},
		{"for x in;do b;done", "for\tx in\ndo b;done"}, {"for y in;do b;done"}, {"for x in a;do b;done"}, {"for x in 'a';do b;done"}, {"for x in a a;do b;done"}, {"for x in a;do b;b;done"}, {"for x in '';do b;done"}, {"for x in a;do c;done"},
	}
	for i, a := range groups {
		for j, b := range groups {
			for _, s := range a {
				for _, u := range b {
					if got := Same(script(t, s), script(t, u)); got != (i == j) {
						t.Errorf("Same of %q and %q: %t", s, u, got)
					}
				}
			}
		}
	}
}

// P11.1: each thing that a command, or a part, has counts, wherever it stands.
func TestSameEach(t *testing.T) {
	word := func(s string) api.Word { return api.Word{L: []api.Part{{Kind: api.PLit, S: s}}} }
	cmd := func(s string) []api.Cmd { return []api.Cmd{{Kind: api.CSimple, Words: []api.Word{word(s)}}} }
	base := func() (api.Cmd, *api.Part) {
		p := []api.Part{{Kind: api.PElse, Quoted: true, S: "a", T: "b", L: cmd("c")}}
		return api.Cmd{
			Kind: api.CIf, Names: []string{"d", "e"}, Values: []api.Word{word("f"), {}}, Words: []api.Word{{L: p}, word("g")},
			A: cmd("h"), B: cmd("i"), C: cmd("j"),
		}, &p[0]
	}
	changes := map[string]func(*api.Cmd, *api.Part){
		"kind":              func(c *api.Cmd, p *api.Part) { c.Kind = api.CWhile },
		"a name":            func(c *api.Cmd, p *api.Part) { c.Names[1] = "d" },
		"no names":          func(c *api.Cmd, p *api.Part) { c.Names = nil },
		"a name more":       func(c *api.Cmd, p *api.Part) { c.Names = append(c.Names, "e") },
		"names turned":      func(c *api.Cmd, p *api.Part) { c.Names = []string{"e", "d"} },
		"a value":           func(c *api.Cmd, p *api.Part) { c.Values[0] = word("g") },
		"a value's part":    func(c *api.Cmd, p *api.Part) { c.Values[1] = word("") },
		"a value less":      func(c *api.Cmd, p *api.Part) { c.Values = c.Values[:1] },
		"values turned":     func(c *api.Cmd, p *api.Part) { c.Values[0], c.Values[1] = c.Values[1], c.Values[0] },
		"a word":            func(c *api.Cmd, p *api.Part) { c.Words[1] = word("h") },
		"a word more":       func(c *api.Cmd, p *api.Part) { c.Words = append(c.Words, api.Word{}) },
		"a word less":       func(c *api.Cmd, p *api.Part) { c.Words = c.Words[:1] },
		"A":                 func(c *api.Cmd, p *api.Part) { c.A = cmd("i") },
		"B":                 func(c *api.Cmd, p *api.Part) { c.B = nil },
		"C":                 func(c *api.Cmd, p *api.Part) { c.C = append(c.C, c.C...) },
		"C in B's place":    func(c *api.Cmd, p *api.Part) { c.B, c.C = c.C, c.B },
		"A in C's place":    func(c *api.Cmd, p *api.Part) { c.A, c.C = nil, append(c.A, c.C...) },
		"within A":          func(c *api.Cmd, p *api.Part) { c.A[0].Words[0].L[0].S = "i" },
		"within C":          func(c *api.Cmd, p *api.Part) { c.C[0].C = cmd("k") },
		"a part's kind":     func(c *api.Cmd, p *api.Part) { p.Kind = api.PHead },
		"a part is quoted":  func(c *api.Cmd, p *api.Part) { p.Quoted = false },
		"a part's S":        func(c *api.Cmd, p *api.Part) { p.S = "b" },
		"a part's T":        func(c *api.Cmd, p *api.Part) { p.T = "" },
		"S in T's place":    func(c *api.Cmd, p *api.Part) { p.S, p.T = p.T, p.S },
		"a part's commands": func(c *api.Cmd, p *api.Part) { p.L = nil },
		"within a part":     func(c *api.Cmd, p *api.Part) { p.L[0].Words[0].L[0].Quoted = true },
		"a part more":       func(c *api.Cmd, p *api.Part) { c.Words[0].L = append(c.Words[0].L, *p) },
		"a part less":       func(c *api.Cmd, p *api.Part) { c.Words[0].L = nil },
	}
	one, _ := base()
	other, _ := base()
	if !Same([]api.Cmd{one}, []api.Cmd{other}) {
		t.Error("two of one kind are the same")
	}
	for name, change := range changes {
		c, p := base()
		change(&c, p)
		a, b := []api.Cmd{one}, []api.Cmd{c}
		for range 3 {
			if Same(a, b) || Same(b, a) {
				t.Errorf("%s: is the same", name)
			}
			if !Same(b, b) {
				t.Errorf("%s: is not itself", name)
			}
			// Deeper.
			a = []api.Cmd{{Kind: api.CSimple, Words: []api.Word{{L: []api.Part{{Kind: api.PCmd, L: a}}}}}}
			b = []api.Cmd{{Kind: api.CSimple, Words: []api.Word{{L: []api.Part{{Kind: api.PCmd, L: b}}}}}}
			a, b = []api.Cmd{{Kind: api.CFor, B: a}}, []api.Cmd{{Kind: api.CFor, B: b}}
		}
	}
	if still, _ := base(); !Same([]api.Cmd{one}, []api.Cmd{still}) {
		t.Error("what was handed in is changed")
	}
}

// P11.1: a list without elements is a list without elements.
func TestSameEmpty(t *testing.T) {
	none := api.Cmd{Kind: api.CSimple}
	empty := api.Cmd{
		Kind: api.CSimple, Names: []string{}, Values: []api.Word{}, Words: []api.Word{},
		A: []api.Cmd{}, B: []api.Cmd{}, C: []api.Cmd{},
	}
	if !Same([]api.Cmd{none}, []api.Cmd{empty}) || !Same(nil, []api.Cmd{}) || !Same([]api.Cmd{}, nil) {
		t.Error("lists without elements are the same")
	}
	a := api.Cmd{Values: []api.Word{{}}, Words: []api.Word{{L: []api.Part{{}}}}}
	b := api.Cmd{Values: []api.Word{{L: []api.Part{}}}, Words: []api.Word{{L: []api.Part{{L: []api.Cmd{}}}}}}
	if !Same([]api.Cmd{a}, []api.Cmd{b}) || Same([]api.Cmd{a}, []api.Cmd{none}) || Same([]api.Cmd{a}, nil) || Same(nil, []api.Cmd{none}) {
		t.Error("words without parts")
	}
}

// P11.1: how many commands there are, in all of them, too.
func TestCount(t *testing.T) {
	for s, want := range map[string]int{
		"":                                   0,
		"#":                                  0,
		"a":                                  1,
		"x=":                                 1,
		"a;b\nc":                             3,
		"a b c":                              1,
		"a|b":                                3,
		"a||b":                               3,
		"a|b||c|d":                           7,
		"if a;then b;fi":                     3,
		"if a;then b;else c;fi":              4,
		"if a;b;then c;d;else e;f;fi":        7,
		"while a;do b;done":                  3,
		"for x in;do a;done":                 2,
		"for x in a b;do a;done":             2,
		"for x in $(a) $(b;c);do d;done":     5,
		"$()":                                1,
		"$(a)":                               2,
		"\"$(a)\"":                           2,
		"$(a)$(b) $(c)":                      4,
		"x=$(a) y=\"$(b;c)\" d $(e|f)":       7,
		"$($($(a)))":                         4,
		"$(x=$(a))":                          3,
		"$((1)) ${x:-a} ${#x}":               1,
		"if $(a);then $(b);else $(c);fi":     7,
		"while if a;then b;fi;do c|d;done":   7,
		"a $(if b;then c;else d;fi)||e;f":    8,
		"x=$(for y in $(a);do $(b);done) c;": 5,
	} {
		if got := Count(script(t, s)); got != want {
			t.Errorf("Count of %q: %d, not %d", s, got, want)
		}
	}
	c := []api.Cmd{{}, {}}
	part := []api.Word{{L: []api.Part{{L: c}, {Kind: api.PLit, L: c}}}, {}, {L: []api.Part{{L: c}}}}
	for i, l := range [][]api.Cmd{
		{{A: c}}, {{B: c}}, {{C: c}}, {{A: c, B: c, C: c}}, {{Values: part}}, {{Words: part}}, {{Kind: 99, A: c, B: c, C: c, Values: part, Words: part}},
	} {
		if got, want := Count(l), []int{3, 3, 3, 7, 7, 7, 19}[i]; got != want {
			t.Errorf("Count of row %d: %d, not %d", i, got, want)
		}
	}
	if Count(nil) != 0 || Count([]api.Cmd{}) != 0 {
		t.Error("Count of nothing")
	}
}

// P11.1: commands that are deeper than any that is read.
func TestSameDeep(t *testing.T) {
	const deep = 1 << 14
	nested := func(end string) []api.Cmd {
		l := []api.Cmd{{Kind: api.CSimple, Names: []string{end}}}
		for i := range deep {
			switch i % 4 {
			case 0:
				l = []api.Cmd{{Kind: api.CPipe, A: l}}
			case 1:
				l = []api.Cmd{{Kind: api.CFor, B: l}}
			case 2:
				l = []api.Cmd{{Kind: api.CIf, C: l}}
			default:
				l = []api.Cmd{{Words: []api.Word{{L: []api.Part{{Kind: api.PCmd, L: l}}}}}}
			}
		}
		return l
	}
	a, b, c := nested("a"), nested("a"), nested("b")
	if !Same(a, b) || Same(a, c) || Count(a) != deep+1 {
		t.Error("deep commands", Count(a))
	}
}

// P11.2: two scripts with byte 10 between are both, one behind the other.
func TestJoin(t *testing.T) {
	t.Parallel()
	l := []string{
		"", "a", "a;", "a\n", ";a", "#", "a #b", "#a\nb", "x=", "x=#", "x=1 a", "a b  ", "a|b", "a||b\n#", "'a\nb'", "\\;", "\"$(a)\"", "$(a\n)", "$((1\n+2))", "${x:-#}", "if a;then b;fi", "if a;then b;else c;fi ", "while a;do b;done\t", "for x in;do a;done;", "for x in a\ndo b;done #", "a if", "if=1", "for x in do\ndo a;done", strings.Repeat("$(", 30) + strings.Repeat(")", 30), strings.Repeat("a;", 1000),
	}
	for _, a := range l {
		for _, b := range l {
			want := append(script(t, a), script(t, b)...)
			if both, e := Read(a + "\n" + b); e != api.OK || !Same(both, want) || Count(both) != Count(want) {
				t.Errorf("%q and %q: %d, %s", a, b, e, told(both))
			}
		}
	}
	// As long as there are no more bytes than may be.
	const most = api.MaxScript
	half := strings.Repeat("a b\n", most/8)
	both, e := Read(half[1:] + "\n" + half)
	if e != api.OK || Count(both) != most/4 {
		t.Errorf("%d, %d commands", e, Count(both))
	}
	refused(t, half+"\n"+half, api.ErrBig)
}
