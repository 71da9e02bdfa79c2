package show

import (
	"slices"
	"strings"
	"testing"

	"dragoman/api"
	"dragoman/shell"
)

// most is how many parts may be nested in one another.
const most = 1 << 16

// P12.2: R1: commands that are nested as deep as may be are told, and aren't right.
func TestDeep(t *testing.T) {
	t.Parallel()
	for name, hold := range holders() {
		l := list(plain("a"))
		for range most {
			l = hold(l)
		}
		one := Text(hold(list(plain("a"))))
		// Each has as much around it.
		if got, want := len(Text(l)), 1+most*(len(one)-1); got != want {
			t.Errorf("%s: %d bytes, not %d", name, got, want)
		}
		if Right(l) {
			t.Errorf("%s: right", name)
		}
	}
	l := plain("a")
	for range most {
		l = or(pipe(l, l), plain("b"))
		l.A[0].A = l.A[0].A[:1]
	}
	if s := Text(list(l)); s != "a"+strings.Repeat(" || b", most) || Right(list(l)) {
		t.Errorf("rows: %d bytes", len(s))
	}
}

// P12.1, P12.2, P12.3: many commands, names, words, parts, and long texts: more than may be read, but right.
func TestLong(t *testing.T) {
	t.Parallel()
	const many = 300000
	a := plain("a")
	c := api.Cmd{Kind: api.CSimple, Names: slices.Repeat([]string{"x"}, many), Values: slices.Repeat([]api.Word{w(lit("1"))}, many), Words: slices.Repeat([]api.Word{w(lit("a"))}, many)}
	long := strings.Repeat("ab", many)
	for _, x := range []struct {
		l    []api.Cmd
		long int
	}{
		{slices.Repeat(list(a), many), 2*many - 1}, {list(c), 6*many - 1}, {list(cmd(slices.Repeat(c.Words, 2)...)), 4*many - 1},
		{list(pipe(slices.Repeat(list(a), many)...)), 4*many - 3}, {list(or(slices.Repeat(list(a), many)...)), 5*many - 4}, {list(choose(slices.Repeat(list(a), many), list(a), list(a))), 2*many - 1 + len("if \nthen\na\nelse\na\nfi")},
		{list(each1("x", list(a), slices.Repeat(c.Words, 2)...)), 4*many + len("for x in\ndo\na\ndone")},
		{list(cmd(w(slices.Repeat([]api.Part{lit("a"), of(api.PVar, "x", ""), quo("b"), in(out(a))}, many)...))), many * len("a${x}'b'\"$(a\n)\"")},
		{list(plain(long)), len(long)}, {list(cmd(w(quo(long)))), len(long) + 2}, {list(cmd(w(quo(strings.Repeat("'", many))))), 4*many + 2}, {list(set(long, w(), cmd())), len(long) + 1},
		{list(cmd(w(of(api.PElse, "x", long)))), len(long) + len("${x:-}")}, {list(cmd(w(of(api.PVar, long, "")))), len(long) + 3}, {list(cmd(w(of(api.PArith, strings.Repeat("(", many)+strings.Repeat(")", many), "")))), 2*many + 5},
	} {
		s := Text(x.l)
		if len(s) != x.long || !Right(x.l) {
			t.Errorf("%.40q: %d bytes, not %d, right is %v", s, len(s), x.long, Right(x.l))
		}
		// With a last command that is wrong all are.
		if Right(append(slices.Clone(x.l), api.Cmd{})) {
			t.Errorf("%.40q: right with what isn't", s)
		}
		want := api.OK
		if len(s) > api.MaxScript {
			want = api.ErrBig
		}
		if k, e := shell.Read(s); e != want || e == api.OK && !shell.Same(k, x.l) {
			t.Errorf("%.40q, read again: %d", s, e)
		}
	}
}

// P12.4: the longest text that is read again, and one that is longer by a byte.
func TestMost(t *testing.T) {
	t.Parallel()
	for _, behind := range []int{0, 1} {
		l := list(plain("a"), plain(strings.Repeat("b", api.MaxScript-2+behind)))
		if len(Text(l)) != api.MaxScript+behind || !Right(l) || again(l) != (behind == 0) {
			t.Errorf("%d bytes: right is %v, as it is %v", len(Text(l)), Right(l), again(l))
		}
	}
}

// R1: all calls end, at commands that are none, too.
func TestWrongEnd(t *testing.T) {
	t.Parallel()
	for _, c := range wrongCmds() {
		Text(list(c))
	}
	for _, p := range wrongParts() {
		Word(w(p))
	}
	for kind := -2; kind < 12; kind++ {
		for at := range 1 << 6 {
			c := api.Cmd{Kind: kind}
			if at&1 > 0 {
				c.Names = []string{"x", "y", "z"}
			}
			if at&2 > 0 {
				c.Values = []api.Word{{}, w(api.Part{Kind: kind})}
			}
			if at&4 > 0 {
				c.Words = []api.Word{{}, w(api.Part{Kind: kind, Quoted: true})}
			}
			for i, l := range []*[]api.Cmd{&c.A, &c.B, &c.C} {
				if at&(8<<i) > 0 {
					*l = []api.Cmd{{}, {Kind: kind}}
				}
			}
			Text(list(c))
			if Right(list(c)) {
				t.Errorf("%v is right", c)
			}
		}
	}
	// One that stands in itself isn't right: it is too deep.
	l := make([]api.Cmd, 1)
	l[0] = choose(l, l, l)
	if Right(l) {
		t.Error("an endless one is right")
	}
}
