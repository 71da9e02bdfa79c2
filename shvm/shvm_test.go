package shvm

import (
	"fmt"
	"math"
	"slices"
	"strings"
	"testing"

	"dragoman/api"
	"dragoman/shell"
)

// ends is how a script ends: what it puts out, its status, and how much fuel it takes.
type ends struct {
	script string
	out    string
	status int
	takes  int
}

// brief is a result, as long as it can be read.
func brief(r api.Result) string {
	return fmt.Sprintf("%.99q (%d bytes), %d, error %d", r.Out, len(r.Out), r.Status, r.E)
}

// read is a script's commands, which it has to be of.
func read(t *testing.T, s string) []api.Cmd {
	t.Helper()
	l, e := shell.Read(s)
	if e != api.OK {
		t.Fatalf("Read(%q): %v", s, e)
	}
	return l
}

// hold holds a script against how it ends, with each fuel, and is the variables that it ends with.
func hold(t *testing.T, x ends, vars []api.Var, in ...string) []api.Var {
	t.Helper()
	l := read(t, x.script)
	var last []api.Var
	for _, more := range []int{0, 1, 1000, math.MaxInt - x.takes} {
		r, after, left := Run(l, vars, in, x.takes+more)
		if want := (api.Result{Out: x.out, Status: x.status}); r != want || left != more {
			t.Errorf("%.200q with %d: %s and %d left, not %s and %d", x.script, x.takes+more, brief(r), left, brief(want), more)
		}
		last = after
	}
	so := ""
	for fuel := range x.takes {
		r, after, left := Run(l, vars, in, fuel)
		if r.Status != 2 || r.E != api.ErrFuel || len(after) > 0 || left != 0 || !strings.HasPrefix(x.out, r.Out) || !strings.HasPrefix(r.Out, so) {
			t.Errorf("%.200q with %d: %s, %d variables and %d left", x.script, fuel, brief(r), len(after), left)
		}
		so = r.Out
	}
	for _, below := range []int{-1, math.MinInt} {
		r, after, left := Run(l, vars, in, below)
		none, some, none0 := Run(l, vars, in, 0)
		if r != none || !slices.Equal(after, some) || left != none0 || left != 0 {
			t.Errorf("%.200q with %d: %s, %d variables and %d left", x.script, below, brief(r), len(after), left)
		}
	}
	if len(vars) == 0 {
		r := Script(x.script, in, x.takes)
		if want := (api.Result{Out: x.out, Status: x.status}); r != want {
			t.Errorf("Script(%.200q): %s, not %s", x.script, brief(r), brief(want))
		}
	}
	return last
}

func holdAll(t *testing.T, rows []ends, in ...string) {
	t.Helper()
	for _, x := range rows {
		hold(t, x, nil, in...)
	}
}

// P14.2: what a CSimple assigns, and does, and its status.
func TestSimple(t *testing.T) {
	holdAll(t, []ends{
		{"", "", 0, 0}, {"# a", "", 0, 0}, {"echo a", "a\n", 0, 1}, {"echo a  'b  c'", "a b  c\n", 0, 1}, {"echo", "\n", 0, 1}, {"true", "", 0, 1}, {":", "", 0, 1}, {"false", "", 1, 1}, {"false; true", "", 0, 2}, {"true; false", "", 1, 2}, {"test a", "", 2, 1}, {"hex A", "x41\n", 0, 1}, {"echo a; echo b", "a\nb\n", 0, 2},
		// Names, in order, ahead of words; they last.
		{"x=1", "", 0, 1}, {"x=1 echo $x", "1\n", 0, 1}, {"x=1 y=$x x=2; echo $x$y", "21\n", 0, 2}, {"x=a echo; echo $x", "\na\n", 0, 2}, {"x=1 x=2 echo $x", "2\n", 0, 1}, {"x=1; x= ; echo \"<$x>\"", "<>\n", 0, 3}, {"x=1 false; echo $x", "1\n", 0, 2}, {"x=1 nope || echo $x", "1\n", 0, 3}, {"x=1; x=$x$x; x=$x$x; echo $x", "1111\n", 0, 4},
		// A value isn't cut.
		{"x=$(echo 'a  b'); echo \"$x\"", "a  b\n", 0, 3}, {"x=' a\n'; y=$x; echo \"<$y>\"", "< a\n>\n", 0, 3},
		// The first field is the name.
		{"$z", "", 0, 1}, {"$z echo a", "a\n", 0, 1}, {"x='echo a  b'; $x", "a b\n", 0, 2}, {"x='echo a'; \"$x\"", "", 127, 2}, {"x=ec; ${x}ho a", "a\n", 0, 2}, {"'echo' a", "a\n", 0, 1}, {"\"\"", "", 127, 1}, {"'' echo", "", 127, 1}, {"nope", "", 127, 1}, {"nope a b", "", 127, 1}, {"Echo", "", 127, 1}, {"sed p", "", 0, 1}, {"x='for'; $x", "", 127, 2}, {"x='a=1'; $x; echo $a", "\n", 0, 3},
		// Without fields it is the last PCmd's status.
		{"x=$(false)", "", 1, 2}, {"x=$(exit 7)", "", 7, 2}, {"$(exit 7)", "", 7, 2}, {"x=$(exit 7) y=$(exit 3)", "", 3, 3}, {"x=$(exit 7) $(exit 3)", "", 3, 3}, {"x=$(exit 7) y=1", "", 7, 2}, {"x=$(exit 7) $z", "", 7, 2}, {"$(exit 7) $z $(exit 4) $z", "", 4, 3}, {"x=$(exit 7)$(exit 3)$z", "", 3, 3}, {"x=a$(exit 4)b", "", 4, 2}, {"x=$(exit 7) $(true)", "", 0, 3}, {"x=$(x=$(exit 3); true)", "", 0, 4}, {"x=$(x=$(exit 3))", "", 3, 3}, {"x=$(nope)", "", 127, 2}, {"x=$(test)", "", 2, 2}, {"x=$(exit 4); $z", "", 0, 3}, {"x=$(exit 4); y=1", "", 0, 3}, {"x=$( )", "", 0, 1}, {"x=$(exit 5) y=$( )", "", 0, 2}, {"x=$(exit 5); x=$( )", "", 0, 3}, {"$(echo ' ')", "", 0, 2}, {"\"$(exit 4)\"", "", 127, 2},
		// With fields it isn't.
		{"x=$(exit 7) echo a", "a\n", 0, 2}, {"x=$(exit 7) true", "", 0, 2}, {"true $(exit 7)", "", 0, 2}, {"false $(true)", "", 1, 2}, {"$(exit 7) false", "", 1, 2},
		// What chapter 13 tells, with no text.
		{"echo a; test b; hex 1; test 1 = 2", "a\nx31\n", 1, 4}, {"str sub hello 2 3; dec / 1 0", "ell\n", 2, 2}, {"unhex x0a78", "\nx\n", 0, 1}, {"sed 's/a/b/'; echo $(sed '$p')", "\n", 0, 3},
	}, "in")
}

// P14.2: lines of input.
func TestRead(t *testing.T) {
	holdAll(t, []ends{
		{"read x; echo \"$x\"", "l1\n", 0, 2}, {"read x; read x; echo \"$x\"", " l  2\n", 0, 3}, {"read x", "", 0, 1}, {"read x; read x; read x", "", 1, 3}, {"read x; read x; read x || echo \"<$x>\"", "<>\n", 0, 5}, {"read x; read y; read z; read z; read z", "", 1, 5},
		{"while read x; do echo \"$x\"; done", "l1\n l  2\n", 0, 9}, {"while read x; do echo \"$x\"; done; echo \"<$x>\"", "l1\n l  2\n<>\n", 0, 10},
		{"r='read q'; $r; echo $q", "l1\n", 0, 3}, {"x=5; read $z x; echo $x", "l1\n", 0, 3}, {"eval read x; echo $x", "l1\n", 0, 3}, {"x=1 read x; echo $x", "l1\n", 0, 2}, {"read if; echo $if", "l1\n", 0, 2},
		// Input is shared by subshells, variables aren't.
		{"x=$(read y; echo $y); read z; echo \"$x$z$y\"", "l1 l  2\n", 0, 5}, {"$(read y); $(read y); read y; echo \"<$y>\"", "<>\n", 0, 6}, {"x=$(read x; read x; read x)", "", 1, 4},
		// Other words: nothing is done, and no line taken.
		{"read", "", 2, 1}, {"read x y", "", 2, 1}, {"read 1x", "", 2, 1}, {"read ''", "", 2, 1}, {"read x-", "", 2, 1}, {"read 'x '", "", 2, 1}, {"read -r x", "", 2, 1}, {"x=1; read; read x y; read x x; read 9; read x; echo $x", "l1\n", 0, 7}, {"x=1; read x y; echo \"$x$y\"", "1\n", 0, 3}, {"read $z; read x; echo $x", "l1\n", 0, 3},
	}, "l1", " l  2")
	// A line is any text, and comes as it is.
	for _, line := range []string{"", " ", "\\", "$x `a` $(b)", "a\nb\n", "\x00\xff", "'\"", strings.Repeat("ab ", api.MaxShell)} {
		after := hold(t, ends{"read x; read y", "", 0, 2}, nil, line, "b")
		if want := []api.Var{{Name: "x", Value: line}, {Name: "y", Value: "b"}}; !slices.Equal(after, want) {
			t.Errorf("%.40q: %.80q", line, after)
		}
	}
	hold(t, ends{"read x", "", 1, 1}, []api.Var{{Name: "x", Value: "old"}})
	if after := hold(t, ends{"read x", "", 1, 1}, []api.Var{{Name: "x", Value: "old"}, {Name: "y", Value: "1"}}); !slices.Equal(after, []api.Var{{Name: "x"}, {Name: "y", Value: "1"}}) {
		t.Errorf("%q", after)
	}
}

// P14.2: what is read and done.
func TestEval(t *testing.T) {
	holdAll(t, []ends{
		{"eval", "", 0, 1}, {"eval ''", "", 0, 1}, {"eval '' ''", "", 0, 1}, {"eval '# a'", "", 0, 1}, {"eval ';' '\n'", "", 0, 1}, {"false; eval", "", 0, 2}, {"eval $z", "", 0, 1},
		{"eval echo a", "a\n", 0, 2}, {"eval echo '\"a  b\"' c", "a  b c\n", 0, 2}, {"eval 'echo a' ' b'", "a b\n", 0, 2}, {"eval 'echo a;' 'echo b'", "a\nb\n", 0, 3}, {"eval 'ec' 'ho'", "", 127, 2}, {"eval 'x=1;' 'echo $x'", "1\n", 0, 3}, {"eval x=1; echo $x", "1\n", 0, 3}, {"eval false", "", 1, 2}, {"eval 'false; true'", "", 0, 3}, {"eval nope", "", 127, 2},
		{"x=a; eval \"v_$x='q r'\"; echo \"$v_a\"", "q r\n", 0, 4}, {"x=y; y=1; eval \"echo \\$$x\"", "1\n", 0, 4}, {"eval eval eval echo a", "a\n", 0, 4}, {"x='echo $y'; y='$x'; eval $x", "$x\n", 0, 4}, {"eval 'if true; then echo a; fi' || echo b", "a\n", 0, 5},
		// The shell, and its loops, are the same.
		{"eval exit 3; echo a", "", 3, 2}, {"eval 'exit 3'; echo a", "", 3, 2}, {"eval 'exit 3; echo a'; echo b", "", 3, 2}, {"while :; do eval break; done; echo a", "a\n", 0, 6}, {"for i in 1 2; do eval 'continue; echo a'; echo b; done; echo c", "c\n", 0, 8}, {"for i in 1 2; do eval 'for j in a b; do break 2; done; echo x'; echo y; done; echo z", "z\n", 0, 7}, {"for i in 1 2; do eval 'for j in a b; do continue 2; done; echo x'; echo y; done; echo z", "z\n", 0, 12},
	})
}

// P14.2: the end of the shell.
func TestExit(t *testing.T) {
	holdAll(t, []ends{
		{"exit", "", 0, 1}, {"false; exit", "", 0, 2}, {"exit 3; echo a", "", 3, 1}, {"exit 0; false", "", 0, 1}, {"exit 255", "", 255, 1}, {"exit 007", "", 7, 1}, {"exit -0", "", 0, 1}, {"echo a; exit 1", "a\n", 1, 2}, {"x=4; exit $x", "", 4, 2}, {"exit $z; echo a", "", 0, 1}, {"x='exit 6'; $x", "", 6, 2},
		// Other words: nothing is done.
		{"exit 256", "", 2, 1}, {"exit -1", "", 2, 1}, {"exit 256; echo a", "a\n", 0, 2}, {"exit ''; echo a", "a\n", 0, 2}, {"exit x || echo a", "a\n", 0, 3}, {"exit 1 2; echo a", "a\n", 0, 2}, {"exit 1x", "", 2, 1}, {"exit ' 1'", "", 2, 1}, {"exit '1 '", "", 2, 1}, {"exit +1", "", 2, 1}, {"exit 1.0", "", 2, 1}, {"exit 99999999999999999999", "", 2, 1}, {"exit 18446744073709551617", "", 2, 1}, {"exit 0 0", "", 2, 1},
		// From everywhere.
		{"if exit 3; then echo a; fi; echo b", "", 3, 2}, {"if exit 0; then echo a; else echo b; fi; echo c", "", 0, 2}, {"if true; then exit 3; echo a; fi; echo b", "", 3, 3}, {"if false; then :; else exit 4; fi; echo b", "", 4, 3}, {"while exit 5; do echo a; done; echo b", "", 5, 3}, {"while exit; do echo a; done; echo b", "", 0, 3}, {"while :; do exit 6; echo a; done; echo b", "", 6, 4}, {"for i in 1 2; do exit 7; done; echo b", "", 7, 3}, {"for i in 1 2; do for j in 1 2; do while :; do exit 8; done; done; done; echo b", "", 8, 8}, {"exit 3 || echo a; echo b", "", 3, 2}, {"false || exit 9 || echo a; echo b", "", 9, 3}, {"exit || echo a; echo b", "", 0, 2},
		// A loop's own status isn't told then.
		{"for i in 1 2; do if test $i = 2; then exit 4; fi; done", "", 4, 8}, {"x=0; while test $x = 0 || exit 5; do x=1; false; done", "", 5, 11},
		// It ends a subshell alone.
		{"x=$(exit 3; echo a); echo \"<$x>\"", "<>\n", 0, 3}, {"x=$(echo a; exit 3; echo b); echo \"$x\"", "a\n", 0, 4}, {"echo $(echo a; exit 3) b", "a b\n", 0, 3}, {"x=$(for i in 1 2; do echo $i; exit 3; done) || echo $x", "1\n", 0, 7}, {"x=$(x=$(exit 3); echo a); echo \"$x\"", "a\n", 0, 5}, {"for i in 1 2; do $(exit); echo $i; done", "1\n2\n", 0, 9}, {"x=$(eval 'exit 3'; echo a); echo \"<$x>\"", "<>\n", 0, 4}, {"x=$(exit 300; echo a); echo $x", "a\n", 0, 4},
	})
}

// P14.2: a pipe's own fuel, texts and status.
func TestPipe(t *testing.T) {
	holdAll(t, []ends{
		{"echo a | sed p", "a\na\n", 0, 3}, {"echo abab | sed 's/a/x/g' | sed p", "xbxb\nxbxb\n", 0, 5}, {"echo a | echo b", "b\n", 0, 1}, {"echo a | true", "", 0, 1}, {"echo a | false", "", 1, 1}, {"false | echo a", "a\n", 0, 1}, {"false | true", "", 0, 1}, {"nope | echo a", "a\n", 0, 1}, {"echo a | nope", "", 127, 1}, {"echo a | nope | sed p", "", 0, 1}, {"echo a | test", "", 2, 1}, {"sed p | sed p", "", 0, 1},
		// The text of the first one is none; of the others what stands ahead, alone.
		{"sed p | sed '$!d'", "", 0, 1}, {"echo a | true | sed p", "", 0, 1}, {"echo a | echo b | sed p", "b\nb\n", 0, 3}, {"echo 'a\nb' | sed 1d", "b\n", 0, 5}, {"echo | sed p", "\n\n", 0, 3},
		// Words are made, PCmds done.
		{"x=q; echo $x | sed s/$x/r/", "r\n", 0, 4}, {"echo $(echo a) | sed $(echo p)", "a\na\n", 0, 5}, {"x='echo a'; $x | sed p", "a\na\n", 0, 4}, {"x='echo a'; \"$x\" | sed p", "", 0, 2}, {"echo a | sed 's/a/x y/' | sed 's/ /-/'", "x-y\n", 0, 5},
		// Without fields.
		{"$z | echo a", "a\n", 0, 1}, {"echo a | $z", "", 0, 1}, {"echo a | $z | sed p", "", 0, 1}, {"false | $z", "", 0, 1}, {"$z | $z", "", 0, 1}, {"echo a | $(exit 3)", "", 0, 2}, {"echo a | false | $z", "", 0, 1},
		// Such are not known there.
		{"echo a | read x", "", 127, 1}, {"read x | echo b; read y; echo $y", "b\nin\n", 0, 3}, {"eval echo a | sed p", "", 0, 1}, {"echo a | eval echo b", "", 127, 1}, {"exit 3 | echo a; echo b", "a\nb\n", 0, 2}, {"echo a | exit 3", "", 127, 1}, {"echo a | exit; echo b", "b\n", 0, 2}, {"for i in 1 2; do echo a | break; echo $i; done", "1\n2\n", 0, 7}, {"for i in 1 2; do echo a | continue; echo $i; done", "1\n2\n", 0, 7},
		// It is one command.
		{"echo a | false || echo b", "b\n", 0, 3}, {"if echo a | false; then :; else echo b; fi", "b\n", 0, 3}, {"x=$(echo a | sed p); echo $x", "a a\n", 0, 5}, {"echo a | false; x=1", "", 0, 2},
	}, "in")
}

// P14.2: one after the other, till one is well.
func TestOr(t *testing.T) {
	holdAll(t, []ends{
		{"true || echo a", "", 0, 2}, {"false || echo a", "a\n", 0, 3}, {"false || false", "", 1, 3}, {"nope || false || test", "", 2, 4}, {"test || nope", "", 127, 3}, {"false || true || echo a", "", 0, 3}, {"false || x=1; echo $x", "1\n", 0, 4}, {"x=$(false) || echo a", "a\n", 0, 4}, {"false || if false; then :; fi", "", 0, 4}, {"while false; do :; done || echo a", "", 0, 4}, {"for i in 1; do false; done || echo a", "a\n", 0, 5}, {"false || false | true || echo a", "", 0, 3},
	})
}

// P14.2: choices.
func TestIf(t *testing.T) {
	holdAll(t, []ends{
		{"if true; then echo a; else echo b; fi", "a\n", 0, 3}, {"if false; then echo a; else echo b; fi", "b\n", 0, 3}, {"if false; then echo a; fi", "", 0, 2}, {"if true; then false; fi", "", 1, 3}, {"if false; then :; else nope; fi", "", 127, 3}, {"if nope; then echo a; else echo b; fi", "b\n", 0, 3}, {"if false; true; then echo a; fi", "a\n", 0, 4}, {"if true; false; then echo a; fi", "", 0, 3}, {"if echo a; then echo b; echo c; fi", "a\nb\nc\n", 0, 4}, {"false; if true; then x=1; fi", "", 0, 4}, {"false; if false; then :; fi", "", 0, 3}, {"if if false; then :; fi; then echo a; fi", "a\n", 0, 4}, {"if true; then if false; then :; else false; fi; fi", "", 1, 5}, {"if x=$(false); then echo a; else echo b; fi", "b\n", 0, 4}, {"if test -n a; then false; else true; fi || echo b", "b\n", 0, 5},
	})
}
