package shvm

import (
	"fmt"
	"maps"
	"math/big"
	"regexp"
	"slices"
	"strconv"
	"strings"
	"testing"

	"dragoman/api"
	"dragoman/arith"
	"dragoman/shell"
	"dragoman/util"
)

// The kinds of reasons for which what stands behind a command isn't done.
const (
	goOn = iota
	breaks
	continues
	exits
	errs
)

// reason is one of these: how many loops are meant, or the status, or the error.
type reason struct{ kind, n int }

// second runs commands a second time: what it leaves undone it tells upwards, as values.
type second struct {
	in   []string
	fuel int
}

// around is what a command stands in.
type around struct {
	vars         map[string]string
	out          *string
	most         int
	loops, evals int
}

func fail(e api.Errno) (int, reason) { return 2, reason{errs, int(e)} }

func (s *second) burn() bool {
	s.fuel--
	return s.fuel >= 0
}

func (s *second) list(l []api.Cmd, in around) (status int, why reason) {
	for _, c := range l {
		if status, why = s.cmd(c, in); why.kind != goOn {
			return
		}
	}
	return
}

func (s *second) cmd(c api.Cmd, in around) (int, reason) {
	if !s.burn() {
		return fail(api.ErrFuel)
	}
	switch c.Kind {
	case api.CSimple:
		return s.simple(c, in)
	case api.CPipe:
		text, status := "", 0
		for _, one := range c.A {
			words, _, why := s.fields(one.Words, in, 0)
			if why.kind != goOn {
				return 2, why
			}
			if text, status, why = s.util(words, text); why.kind != goOn {
				return 2, why
			}
		}
		return s.put(text, status, in)
	case api.COr:
		if len(c.A) == 1 {
			return s.cmd(c.A[0], in)
		}
		status, why := s.cmd(c.A[0], in)
		if status == 0 || why.kind != goOn {
			return status, why
		}
		// The rest is one again, which the fuel isn't taken for.
		s.fuel++
		return s.cmd(api.Cmd{Kind: api.COr, A: c.A[1:]}, in)
	case api.CIf:
		status, why := s.list(c.A, in)
		if why.kind != goOn {
			return status, why
		}
		return s.list([][]api.Cmd{c.B, c.C}[min(status, 1)], in)
	}
	return s.loop(c, in)
}

func (s *second) loop(c api.Cmd, in around) (int, reason) {
	words, last := []string(nil), 0
	if c.Kind == api.CFor {
		var why reason
		if words, _, why = s.fields(c.Words, in, 0); why.kind != goOn {
			return 2, why
		}
	}
	in.loops++
	for c.Kind == api.CWhile || len(words) > 0 {
		if !s.burn() {
			return fail(api.ErrFuel)
		}
		asked, why := 0, reason{}
		if c.Kind == api.CWhile {
			asked, why = s.list(c.A, in)
		} else {
			in.vars[c.Names[0]], words = words[0], words[1:]
		}
		if why.kind == goOn && asked != 0 {
			return last, why
		}
		if why.kind == goOn {
			last, why = s.list(c.B, in)
		}
		switch {
		case why.kind == exits || why.kind == errs:
			return last, why
		case why.kind != goOn && why.n > 1:
			return last, reason{why.kind, why.n - 1}
		case why.kind == breaks:
			return last, reason{}
		}
	}
	return last, reason{}
}

func (s *second) put(text string, status int, in around) (int, reason) {
	if len(*in.out)+len(text) > in.most {
		return fail(api.ErrBig)
	}
	*in.out += text
	return status, reason{}
}

func (s *second) util(words []string, text string) (string, int, reason) {
	if len(words) == 0 {
		return "", 0, reason{}
	}
	out, status, left, e := util.Run(words, text, s.fuel)
	s.fuel = left
	if e == api.ErrFuel || e == api.ErrBig {
		return "", 2, reason{errs, int(e)}
	}
	return out, status, reason{}
}

func (s *second) simple(c api.Cmd, in around) (int, reason) {
	told := 0
	for i, name := range c.Names {
		value := ""
		for _, p := range c.Values[i].L {
			v, status, why := s.part(p, in, told)
			if value += v; why.kind == goOn && len(value) > 65536 {
				why = reason{errs, int(api.ErrBig)}
			}
			if why.kind != goOn {
				return 2, why
			}
			told = status
		}
		in.vars[name] = value
	}
	words, told, why := s.fields(c.Words, in, told)
	if why.kind != goOn || len(words) == 0 {
		return told, why
	}
	return s.named(words[0], words[1:], in)
}

var (
	isName  = regexp.MustCompile(`\A[A-Za-z_][A-Za-z_0-9]*\z`)
	isWhole = regexp.MustCompile(`\A-?[0-9]+\z`)
)

// whole is the number of just one word, or the usual one.
func whole(others []string, usual, least, most int64) (int64, bool) {
	if len(others) == 0 {
		return usual, true
	}
	n, is := new(big.Int).SetString(others[0], 10)
	if len(others) > 1 || !isWhole.MatchString(others[0]) || !is || n.Cmp(big.NewInt(least)) < 0 || n.Cmp(big.NewInt(most)) > 0 {
		return 0, false
	}
	return n.Int64(), true
}

func (s *second) named(name string, others []string, in around) (int, reason) {
	switch name {
	case "read":
		if len(others) != 1 || !isName.MatchString(others[0]) {
			return 2, reason{}
		}
		if len(s.in) == 0 {
			in.vars[others[0]] = ""
			return 1, reason{}
		}
		in.vars[others[0]], s.in = s.in[0], s.in[1:]
		return 0, reason{}
	case "eval":
		l, e := shell.Read(strings.Join(others, " "))
		if in.evals == 30 {
			return fail(api.ErrDeep)
		}
		if e != api.OK {
			return fail(api.ErrSyntax)
		}
		in.evals++
		return s.list(l, in)
	case "exit":
		n, is := whole(others, 0, 0, 255)
		if !is {
			return 2, reason{}
		}
		return int(n), reason{exits, int(n)}
	case "break", "continue":
		n, is := whole(others, 1, 1, 1<<62)
		if !is {
			return 2, reason{}
		}
		if in.loops == 0 {
			return 0, reason{}
		}
		kind := map[string]int{"break": breaks, "continue": continues}[name]
		return 0, reason{kind, min(int(n), in.loops)}
	}
	out, status, why := s.util(append([]string{name}, others...), "")
	if why.kind != goOn {
		return 2, why
	}
	return s.put(out, status, in)
}

func (s *second) fields(l []api.Word, in around, told int) ([]string, int, reason) {
	var all []string
	for _, w := range l {
		var parts []string
		var quoted []bool
		for _, p := range w.L {
			v, status, why := s.part(p, in, told)
			if why.kind != goOn {
				return nil, 2, why
			}
			told = status
			parts, quoted = append(parts, v), append(quoted, p.Quoted || p.Kind == api.PLit)
		}
		for _, f := range secondFields(parts, quoted) {
			if len(f) > 65536 {
				return nil, 2, reason{errs, int(api.ErrBig)}
			}
			all = append(all, f)
		}
	}
	return all, told, reason{}
}

// part is a part's value, and the status of the PCmd that was done last.
func (s *second) part(p api.Part, in around, told int) (string, int, reason) {
	v := in.vars[p.S]
	switch p.Kind {
	case api.PLit:
		v = p.S
	case api.PElse:
		if len(v) == 0 {
			v = p.T
		}
	case api.PLen:
		v = strconv.Itoa(len(v))
	case api.PHead:
		if len(v) >= len(p.T) && v[:len(p.T)] == p.T {
			v = v[len(p.T):]
		}
	case api.PTail:
		if at := len(v) - len(p.T); at >= 0 && v[at:] == p.T {
			v = v[:at]
		}
	case api.PArith:
		n, e := arith.Eval(p.S, row(in.vars))
		if e != api.OK {
			return "", 2, reason{errs, int(e)}
		}
		v = strconv.FormatInt(n, 10)
	case api.PCmd:
		out := ""
		status, why := s.list(p.L, around{maps.Clone(in.vars), &out, 65536, 0, in.evals})
		if why.kind == errs {
			return "", 2, why
		}
		if why.kind == exits {
			status = why.n
		}
		for strings.HasSuffix(out, "\n") {
			out = out[:len(out)-1]
		}
		return out, status, reason{}
	}
	return v, told, reason{}
}

// row are variables by rising names.
func row(vars map[string]string) []api.Var {
	var l []api.Var
	for _, name := range slices.Sorted(maps.Keys(vars)) {
		l = append(l, api.Var{Name: name, Value: vars[name]})
	}
	return l
}

// secondRun is Run, a second time.
func secondRun(l []api.Cmd, vars []api.Var, in []string, fuel int) (api.Result, []api.Var, int) {
	s := &second{in, max(fuel, 0)}
	out := ""
	here := around{map[string]string{}, &out, 1 << 20, 0, 0}
	for _, v := range vars {
		here.vars[v.Name] = v.Value
	}
	status, why := s.list(l, here)
	switch why.kind {
	case errs:
		return api.Result{Out: out, Status: 2, E: api.Errno(why.n)}, nil, max(s.fuel, 0)
	case exits:
		status = why.n
	}
	return api.Result{Out: out, Status: status}, row(here.vars), s.fuel
}

// maker makes scripts that look stray, and can be read.
type maker struct{ next func(below int) int }

// stray tells numbers that hang on a seed alone.
func stray(seed uint64) func(below int) int {
	at := seed*2862933555777941757 + 3037000493
	return func(below int) int {
		at = at*6364136223846793005 + 1442695040888963407
		return int(at >> 33 % uint64(below))
	}
}

func (m *maker) pick(of ...string) string { return of[m.next(len(of))] }

func (m *maker) name() string { return m.pick("n", "n", "k", "x", "y") }

// list makes some lines.
func (m *maker) list(deep int) string {
	s := m.line(deep)
	for range m.next(4) {
		s += m.pick("; ", "\n") + m.line(deep)
	}
	return s
}

func (m *maker) line(deep int) string {
	s := m.cmd(deep)
	for m.next(6) == 0 {
		s += " || " + m.cmd(deep)
	}
	return s
}

func (m *maker) cmd(deep int) string {
	kind := m.next(20)
	if deep == 0 {
		kind = 5 + m.next(15)
	}
	switch kind {
	case 0:
		return "if " + m.list(deep-1) + "; then " + m.list(deep-1) + "; fi"
	case 1:
		return "if " + m.list(deep-1) + "; then " + m.list(deep-1) + "; else " + m.list(deep-1) + "; fi"
	case 2:
		return "while " + m.list(deep-1) + "; do " + m.list(deep-1) + "; done"
	case 3:
		return "while test \"$n\" != " + m.pick("2", "3") + "; do n=$((n+1)); " + m.list(deep-1) + "; done"
	case 4:
		return "for " + m.name() + " in " + m.words(deep) + "; do " + m.list(deep-1) + "; done"
	case 5:
		return "eval " + m.pick("'", "") + "x=1" + m.pick("", ";")
	}
	return m.simple(kind, deep)
}

func (m *maker) simple(kind, deep int) string {
	switch kind {
	case 6:
		return m.pick("break", "continue") + m.pick("", "", " 1", " 2", " 2", " 3", " 4611686018427387904", " 0", " x", " $n")
	case 7:
		return m.pick("exit", "break", "continue", "continue 2", "break 2") + m.pick("", "", " $n", " 3", " 256")
	case 8:
		return "read " + m.pick(m.name(), m.name(), "", "x y", "1")
	case 9:
		return "n=$((n" + m.pick("+", "+", "-", "*") + m.pick("1", "k", "2") + "))"
	case 10:
		return m.name() + "=" + m.word(deep)
	case 11:
		return m.name() + "=" + m.word(deep) + " " + m.name() + "=" + m.word(deep) + " " + m.pick("", "echo $x", "$z", m.words(deep))
	case 12:
		return "test " + m.pick("$n -lt 3", "$n = 1", "\"$x\" = a", "-n \"$y\"", m.words(deep))
	case 13:
		return "echo " + m.words(deep) + " | sed " + m.pick("p", "'s/[a-c]/x/g'", "1d", "'s/a'", "-n p", "'s/ /\\x0a/'") + m.pick("", " | sed p", " | $z", " | false", " | read x", " | echo $n")
	case 14:
		return m.pick("false", "true", ":", "nope", "$z", "$(exit 4)", "$(echo echo b)")
	case 15:
		return "eval " + quote(m.list(max(deep-1, 0)))
	case 16:
		return "x=" + m.pick("$x$x$x", "a", "$x$x", "'a b '")
	}
	return "echo " + m.words(deep)
}

func quote(s string) string { return "'" + strings.ReplaceAll(s, "'", `'\''`) + "'" }

func (m *maker) words(deep int) string {
	s := ""
	for range 1 + m.next(3) {
		s += " " + m.word(deep)
	}
	return s
}

func (m *maker) word(deep int) string {
	s := m.part(deep)
	for m.next(3) == 0 {
		s += m.part(deep)
	}
	return s
}

func (m *maker) part(deep int) string {
	name := m.name()
	s := m.pick("a", "bc", "1", "2", "' '", "'a  b'", "''", "\\$", "$"+name, "$"+name, "\"$"+name+"\"", "\"$"+name+" c\"", "${"+name+":-d e}", "\"${"+name+":-}\"", "${#"+name+"}", "${"+name+"#a}", "\"${"+name+"%b}\"", "$((n+1))", "$((k*2))", "@")
	if s == "@" && deep > 0 {
		s = m.pick("$(~)", "\"$(~)\"")
		s = strings.ReplaceAll(s, "~", m.list(deep-1)+"\n")
	}
	return s
}

// same holds a run against the second one.
func same(t *testing.T, s string, l []api.Cmd, vars []api.Var, in []string, fuel int) api.Result {
	t.Helper()
	r, after, left := Run(l, vars, in, fuel)
	r2, after2, left2 := secondRun(l, vars, in, fuel)
	if r != r2 || !slices.Equal(after, after2) || left != left2 {
		t.Fatalf("%q with %d: %s, %.999s, %d left, not %s, %.999s, %d", s, fuel, brief(r), fmt.Sprint(after), left, brief(r2), fmt.Sprint(after2), left2)
	}
	return r
}

// P14.2, P14.4: stray scripts, with little fuel and with more; what is put out with less is put out first with more.
func TestStray(t *testing.T) {
	t.Parallel()
	vars := []api.Var{{Name: "k", Value: "2"}, {Name: "x", Value: "a b"}}
	errors, statuses, made := map[api.Errno]int{}, map[int]int{}, 0
	for seed := range uint64(20000) {
		m := &maker{next: stray(seed)}
		s := m.list(int(seed % 5))
		l, e := shell.Read(s)
		if e != api.OK {
			continue
		}
		made++
		so := ""
		for _, fuel := range []int{0, 1, 2, 3, 5, 8, 13, 21, 34, 55, 89, 144, 233} {
			r := same(t, s, l, vars, []string{"l1", " l  2 ", "a"}, fuel)
			if !strings.HasPrefix(r.Out, so) {
				t.Fatalf("%q with %d: %.99q, not on from %.99q", s, fuel, r.Out, so)
			}
			so = r.Out
			if fuel == 233 {
				errors[r.E]++
				statuses[r.Status]++
			}
		}
	}
	if made < 12000 {
		t.Errorf("only %d can be read", made)
	}
	for _, e := range []api.Errno{api.OK, api.ErrFuel, api.ErrForm, api.ErrSyntax, api.ErrBig} {
		if errors[e] < 20 {
			t.Errorf("too few of %d: %v", e, errors)
		}
	}
	for _, status := range []int{0, 1, 2, 3, 4, 127} {
		if statuses[status] < 20 {
			t.Errorf("too few with %d: %v", status, statuses)
		}
	}
}
