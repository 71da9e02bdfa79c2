package stream

import (
	"regexp"
	"slices"
	"strconv"
	"strings"
	"testing"

	"dragoman/api"
	"dragoman/regex"
)

// second is a second reading of the chapter: it goes by events, with Go's own regular expressions.
type second struct {
	script  []api.SedCmd
	lines   []string
	quiet   bool
	fuel    int
	now     int // the line's number
	space   map[string]string
	swapped bool // a substitution was done
	from    map[int]bool
	out     []string
	known   map[string]*regexp.Regexp
}

// ended is how a run ended, thrown to its beginning.
type ended struct{ e api.Errno }

// newCycle is thrown to a cycle's beginning.
type newCycle struct{}

// again is what answers as Run does.
func again(l []api.SedCmd, lines []string, quiet bool, fuel int) (out []string, left int, e api.Errno) {
	m := &second{script: l, lines: lines, quiet: quiet, fuel: max(0, fuel), space: map[string]string{}, from: map[int]bool{}, known: map[string]*regexp.Regexp{}}
	defer func() {
		if why, is := recover().(ended); is {
			e = why.e
		}
		out, left = m.out, m.fuel
	}()
	for m.now < len(lines) {
		m.cycle()
	}
	return nil, 0, api.OK
}

func (m *second) cycle() {
	defer func() {
		switch why := recover().(type) {
		case nil, newCycle:
		default:
			panic(why)
		}
	}()
	m.burn()
	m.now, m.swapped = m.now+1, false
	m.space["pattern"] = m.lines[m.now-1]
	m.goOn(0)
	m.out = append(m.out, m.unlessQuiet()...)
}

// goOn does the commands from one on.
func (m *second) goOn(at int) {
	for ; at < len(m.script); at++ {
		m.burn()
		if c := m.script[at]; m.isMeant(at) != c.Not {
			if to := m.do(c); to != "-" {
				at = m.labels(to)
			}
		}
	}
}

func (m *second) burn() {
	if m.fuel < 1 {
		panic(ended{api.ErrFuel})
	}
	m.fuel--
}

func (m *second) unlessQuiet() []string {
	if m.quiet {
		return nil
	}
	return []string{m.space["pattern"]}
}

func (m *second) labels(name string) int {
	for i, c := range m.script {
		if c.Op == ':' && c.Label == name {
			return i - 1
		}
	}
	return len(m.script)
}

func (m *second) compiled(t []api.Re) *regexp.Regexp {
	s := regex.Text(t)
	if m.known[s] == nil {
		m.known[s] = regexp.MustCompile(s)
		m.known[s].Longest()
	}
	return m.known[s]
}

func (m *second) is(a api.Addr) bool {
	return a.Kind == api.ALine && a.N == m.now || a.Kind == api.ALast && m.now == len(m.lines) || a.Kind == api.ARe && m.compiled(a.Re).MatchString(m.space["pattern"])
}

// isMeant goes by what a command with two addresses was when it was come to, and what it is behind that.
func (m *second) isMeant(at int) bool {
	a, b := m.script[at].A, m.script[at].B
	if a.Kind == api.ANone {
		return true
	}
	if b.Kind == api.ANone {
		return m.is(a)
	}
	was := m.from[at]
	meant := was || m.is(a)
	over := b.Kind == api.ALine && b.N <= m.now || was && m.is(b)
	m.from[at] = meant && !over
	return meant
}

func (m *second) fill(space, s string) {
	if len(s) > api.MaxShell {
		panic(ended{api.ErrBig})
	}
	m.space[space] = s
}

// do answers the label that it goes to: - if it goes on.
func (m *second) do(c api.SedCmd) string {
	pattern, hold := m.space["pattern"], m.space["hold"]
	switch c.Op {
	case 'p':
		m.out = append(m.out, pattern)
	case 'd':
		panic(newCycle{})
	case 'q', 'n':
		m.out = append(m.out, m.unlessQuiet()...)
		if c.Op == 'q' || m.now == len(m.lines) {
			panic(ended{api.OK})
		}
		m.now++
		m.space["pattern"] = m.lines[m.now-1]
	case 'h':
		m.space["hold"] = pattern
	case 'g':
		m.space["pattern"] = hold
	case 'x':
		m.space["pattern"], m.space["hold"] = hold, pattern
	case 'H':
		m.fill("hold", hold+"\n"+pattern)
	case 'G':
		m.fill("pattern", pattern+"\n"+hold)
	case 's':
		m.replace(c, pattern)
	case 'b':
		return c.Label
	case 't':
		if m.swapped {
			m.swapped = false
			return c.Label
		}
	}
	return "-"
}

func (m *second) replace(c api.SedCmd, s string) {
	many := 0
	s = m.compiled(c.Re).ReplaceAllStringFunc(s, func(what string) string {
		if many++; many > 1 && !c.All {
			return what
		}
		return strings.Join(c.By, what)
	})
	if many == 0 {
		return
	}
	m.fill("pattern", s)
	m.swapped = true
	if c.Print {
		m.out = append(m.out, s)
	}
}

// holdSecond holds Run against the second reading, at an amount of fuel.
func holdSecond(t *testing.T, s string, l []api.SedCmd, lines []string, quiet bool, fuel int) api.Errno {
	t.Helper()
	out, left, e := Run(l, lines, quiet, fuel)
	want, rest, f := again(l, lines, quiet, fuel)
	if !slices.Equal(out, want) || left != rest || e != f {
		t.Fatalf("%q over %q, %v, %d: %q %d %d, not %q %d %d", s, lines, quiet, fuel, out, left, e, want, rest, f)
	}
	return e
}

// addresses are ones to try.
var addresses = []string{"", "1", "2", "3", "4", "$", "/a/", "/b/", "/^$/", "/b|\\x0a/"}

// places are all forms of addresses, with and without !.
func places() []string {
	var l []string
	for _, a := range addresses {
		for _, b := range addresses {
			both := a
			switch {
			case a == "" && b != "":
				continue
			case b != "":
				both = a + "," + b
			}
			l = append(l, both, both+"!")
		}
	}
	return l
}

// letters are all commands, with and without what may stand behind them.
var letters = []string{"p", "d", "q", "n", "h", "H", "g", "G", "x", "s/a/b/", "s/a|b/[&]/g", "s/x*/-/p", "s/^a?/&/gp", "s/b|\\x0a//g", "b", "b x", "t", "t x"}

// P9.1: each letter with each form of addresses, alone and among others that change what they ask for.
func TestEachSecond(t *testing.T) {
	texts := [][]string{nil, {""}, {"a"}, {"a", "b", "ab", "c"}, {"b", "", "a", "ba", "a"}, {"ab", "ab", "ab"}}
	for _, around := range [][2]string{{"", ";:x"}, {"h;:x;n;", ";p"}, {"G;s/a/bb/;", ";:x;p;H;x"}, {":x;s/b/a/;", ";1!x;t;s/a/b/p"}} {
		for _, p := range places() {
			for _, c := range letters {
				s := around[0] + p + c + around[1]
				l := script(t, s)
				for _, lines := range texts {
					holdSecond(t, s, l, lines, false, 60)
					holdSecond(t, s, l, lines, true, 60)
				}
			}
		}
	}
}

// row is a row of numbers that hangs on its beginning alone.
func row(seed uint64) func(int) int {
	return func(below int) int {
		seed = seed*6364136223846793005 + 1442695040888963407
		return int(seed >> 33 % uint64(below))
	}
}

// strayScript is a script's text, with up to so many commands and the labels x and y.
func strayScript(next func(int) int, most int) string {
	forms := places()
	l := []string{}
	for range next(most + 1) {
		c := letters[next(len(letters))]
		if next(6) == 0 {
			c = []string{"b y", "t y"}[next(2)]
		}
		p := ""
		if next(3) > 0 {
			p = forms[next(len(forms))]
		}
		l = append(l, p+c)
	}
	l = slices.Insert(l, next(len(l)+1), ":x")
	l = slices.Insert(l, next(len(l)+1), ":y")
	return strings.Join(l, ";")
}

// strayLines are lines.
func strayLines(next func(int) int, most int) []string {
	l := make([]string, next(most+1))
	for i := range l {
		for range next(4) {
			l[i] += []string{"a", "b", "c", "x", "\n", " "}[next(6)]
		}
	}
	return l
}

// P9.1: stray scripts, over stray lines, with stray fuel.
func TestStraySecond(t *testing.T) {
	next := row(9)
	counts := map[api.Errno]int{}
	for range 30000 {
		s := strayScript(next, 7)
		l, lines := script(t, s), strayLines(next, 6)
		quiet := next(2) == 0
		counts[holdSecond(t, s, l, lines, quiet, next(120))]++
		counts[holdSecond(t, s, l, lines, quiet, 400)]++
	}
	if counts[api.OK] < 10000 || counts[api.ErrFuel] < 5000 {
		t.Errorf("how they ended: %v", counts)
	}
}

// P9.1: stray scripts whose spaces grow past what may be.
func TestBigSecond(t *testing.T) {
	next := row(99)
	grow := []string{"G", "H", "x", "h", "s/a/aaaa/g", "s/.*/&&/", "s/a*/&b&/g", "s/b/a/g", "p", "s/$/a/p", "$!n"}
	counts := map[api.Errno]int{}
	for range 150 {
		s := ":x"
		for range 1 + next(5) {
			s += ";" + grow[next(len(grow))]
		}
		l := script(t, s+";bx")
		lines := []string{strings.Repeat("ab", next(300)), "a", strings.Repeat("a", api.MaxShell-next(3)+1)}[next(3):]
		counts[holdSecond(t, s, l, lines, true, 40+next(40))]++
	}
	if counts[api.ErrBig] < 50 || counts[api.ErrFuel] < 5 {
		t.Errorf("how they ended: %v", counts)
	}
}

// P9.1: lines' numbers of more than a figure.
func TestNumbersSecond(t *testing.T) {
	lines := slices.Repeat([]string{"a", "b", "", "c"}, 30)
	next := row(5)
	for range 1000 {
		a, b := strconv.Itoa(1+next(130)), strconv.Itoa(1+next(130))
		s := []string{a, a + "," + b, a + ",/c/", "/b/," + b, "$," + b, a + ",$"}[next(6)] + []string{"", "!"}[next(2)] + []string{"p", "d", "n", "s/a/x/p"}[next(4)]
		if next(2) == 0 {
			s = a + "," + b + "b;" + s + ";" + s
		}
		holdSecond(t, s, script(t, s), lines, next(2) == 0, 1000)
	}
}
