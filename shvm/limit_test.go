package shvm

import (
	"math"
	"slices"
	"strings"
	"testing"

	"dragoman/api"
)

// fails is how a script ends with an error: what it put out so far, which one, and how much of fuel it took.
type fails struct {
	script string
	out    string
	e      api.Errno
	takes  int
}

// sized are variables of certain numbers of bytes: f of all that a value may have, g of one less, h of half of it, o of one, r of one too many, w of twice as many, in fields of one.
func sized() []api.Var {
	return []api.Var{{Name: "f", Value: strings.Repeat("f", api.MaxShell)}, {Name: "g", Value: strings.Repeat("g", api.MaxShell-1)}, {Name: "h", Value: strings.Repeat("h", api.MaxShell/2)}, {Name: "o", Value: "o"}, {Name: "r", Value: strings.Repeat("r", api.MaxShell+1)}, {Name: "w", Value: strings.Repeat("w ", api.MaxShell)}}
}

// holdFails holds scripts against how they end with an error, with enough fuel; with less they end for want of it.
func holdFails(t *testing.T, rows []fails, vars []api.Var, in ...string) {
	t.Helper()
	for _, x := range rows {
		l := read(t, x.script)
		want := api.Result{Out: x.out, Status: 2, E: x.e}
		for _, more := range []int{0, 1, 1000, math.MaxInt - x.takes} {
			r, after, left := Run(l, vars, in, x.takes+more)
			if r != want || len(after) > 0 || left != more {
				t.Errorf("%.200q with %d: %.99q, %d, %v, %d variables and %d left, not %.99q, %v and %d", x.script, x.takes+more, r.Out, r.Status, r.E, len(after), left, x.out, x.e, more)
			}
		}
		for fuel := range x.takes {
			r, after, left := Run(l, vars, in, fuel)
			if r.Status != 2 || r.E != api.ErrFuel || len(after) > 0 || left != 0 || !strings.HasPrefix(x.out, r.Out) {
				t.Errorf("%.200q with %d: %.99q, %v and %d left", x.script, fuel, r.Out, r.E, left)
			}
		}
		if vars == nil {
			if r := Script(x.script, in, x.takes); r != want {
				t.Errorf("Script(%.200q): %s", x.script, brief(r))
			}
		}
	}
}

// P14.2: chapter 10's errors, where they are come to.
func TestArithFails(t *testing.T) {
	deep := strings.Repeat("(", 31) + "1" + strings.Repeat(")", 31)
	holdFails(t, []fails{
		{"echo $((1/0))", "", api.ErrZero, 1}, {"echo a; echo $((1%0)); echo b", "a\n", api.ErrZero, 2}, {"x=$((1 +))", "", api.ErrSyntax, 1}, {"x=$(())", "", api.ErrSyntax, 1}, {"x=a; x=$((x))", "", api.ErrForm, 2}, {"echo a; x=$((" + deep + "))", "a\n", api.ErrDeep, 2}, {"x=$((99999999999999999999))", "", api.ErrSyntax, 1},
		{"x=$(echo a)$((1/0))", "", api.ErrZero, 2}, {"x=$((1/0))$(echo a)", "", api.ErrZero, 1}, {"x=$((1/0)) y=$((1+)) echo", "", api.ErrZero, 1}, {"echo $((1+)) $((1/0))", "", api.ErrSyntax, 1}, {"x=$((1+)) echo $((1/0))", "", api.ErrSyntax, 1},
		{"echo $((1/0)) | sed p", "", api.ErrZero, 1}, {"echo a | sed p | echo $((1/0))", "", api.ErrZero, 3}, {"for i in a $((1/0)); do echo $i; done", "", api.ErrZero, 1}, {"for i in 1 0; do echo $((1/i)); done", "1\n", api.ErrZero, 1 + 2*2}, {"while test $((1/0)) = 1; do :; done", "", api.ErrZero, 3}, {"false || x=$((1/0)) || echo a", "", api.ErrZero, 3}, {"if x=$((1/0)); then :; else :; fi", "", api.ErrZero, 2}, {"eval 'echo a; x=$((1/0))'; echo b", "a\n", api.ErrZero, 3}, {"read $((1/0))", "", api.ErrZero, 1}, {"exit $((1/0))", "", api.ErrZero, 1}, {"eval $((1/0)) '('", "", api.ErrZero, 1},
		// In a subshell it ends all, and what that put out isn't put out.
		{"echo a; x=$(echo b; echo $((1/0))) || echo c; echo d", "a\n", api.ErrZero, 5}, {"x=$(x=$(x=$(echo $((1/0)))))", "", api.ErrZero, 4}, {"echo a; echo $(echo b) $(echo $(echo $((1/0))))", "a\n", api.ErrZero, 5}, {"x=$(exit 3; echo $((1/0))); echo $((1/0))", "", api.ErrZero, 3},
	}, nil)
}

// P14.2: a value, asked behind each of its parts.
func TestValueBig(t *testing.T) {
	vars := sized()
	for _, x := range []struct {
		script string
		takes  int
		long   int
	}{
		{"x=$f", 1, 65536}, {"x=$g$o", 1, 65536}, {"x=$h$h", 1, 65536}, {"x=$f$z''", 1, 65536}, {"x=$f$()", 1, 65536}, {"x=${r#r}", 1, 65536}, {"x=${r%r}", 1, 65536}, {"x=${#r}", 1, 5}, {"x=${#w}", 1, 6}, {"x=$f y=$f", 1, 65536}, {"x=$g$(echo a)", 2, 65536}, {"x=$g$((1))", 1, 65536}, {"x=$(echo \"$h\")$(echo \"$h\")", 3, 65536}, {"x=${z:-a}$g", 1, 65536},
	} {
		after := hold(t, ends{x.script, "", 0, x.takes}, vars)
		at := slices.IndexFunc(after, func(v api.Var) bool { return v.Name == "x" })
		if at < 0 || len(after[at].Value) != x.long {
			t.Errorf("%q: not %d bytes", x.script, x.long)
		}
	}
	holdFails(t, []fails{
		{"x=$f$o", "", api.ErrBig, 1}, {"x=$o$f", "", api.ErrBig, 1}, {"x=$g$o$o", "", api.ErrBig, 1}, {"x=$h$h$o", "", api.ErrBig, 1}, {"x=$r", "", api.ErrBig, 1}, {"x=\"$r\"", "", api.ErrBig, 1}, {"x=$w", "", api.ErrBig, 1}, {"x=$f\\a", "", api.ErrBig, 1}, {"x=${r:-a}", "", api.ErrBig, 1}, {"x=${r#a}", "", api.ErrBig, 1}, {"x=${r%a}", "", api.ErrBig, 1}, {"x=${z:-a}$f", "", api.ErrBig, 1}, {"x=$f$((1))", "", api.ErrBig, 1}, {"x=$f${#o}", "", api.ErrBig, 1},
		{"echo a; x=1 y=$f$o echo b", "a\n", api.ErrBig, 2},
		// Ahead of what stands behind it; behind what stands ahead.
		{"x=$f$o$((1/0))", "", api.ErrBig, 1}, {"x=$f$((1/0))$o", "", api.ErrZero, 1}, {"x=$f$o$(echo a)", "", api.ErrBig, 1}, {"x=$f$(echo a)", "", api.ErrBig, 2}, {"x=$f$(echo a)$(echo b)", "", api.ErrBig, 2}, {"x=$f$o y=$((1/0))", "", api.ErrBig, 1}, {"x=$f$o echo $((1/0))", "", api.ErrBig, 1},
		{"x=$(y=$f$o)", "", api.ErrBig, 2},
	}, vars)
	long := strings.Repeat("a", api.MaxShell)
	hold(t, ends{"x='" + long + "'", "", 0, 1}, nil)
	holdFails(t, []fails{{"x='" + long + "a'", "", api.ErrBig, 1}, {"x=" + long + "'a'", "", api.ErrBig, 1}, {"x=a; while :; do x=$x$x; done", "", api.ErrBig, 1 + 1 + 17*3}}, nil)
	// A line of input isn't a word's value.
	hold(t, ends{"read x; echo ${#x}", "65537\n", 0, 2}, nil, long+"a")
	holdFails(t, []fails{{"read x; echo \"$x\"", "", api.ErrBig, 2}, {"read x; y=$x", "", api.ErrBig, 2}}, nil, long+"a")
}

// P14.2: a field, asked behind all parts of its word.
func TestFieldBig(t *testing.T) {
	vars := sized()
	f, w := vars[0].Value, strings.TrimSuffix(vars[5].Value, " ")
	for _, x := range []ends{
		{"echo $f", f + "\n", 0, 1}, {"echo \"$f\"", f + "\n", 0, 1}, {"echo $f $o", f + " o\n", 0, 1}, {"echo $f$z''", f + "\n", 0, 1}, {"echo \"$f\" \"$f\" $f", f + " " + f + " " + f + "\n", 0, 1}, {"echo $w", w + "\n", 0, 1}, {"echo $w$f", w + " " + f + "\n", 0, 1}, {"echo ${#r}", "65537\n", 0, 1}, {"echo ${r#rr}$o", strings.Repeat("r", 65535) + "o\n", 0, 1}, {"$f", "", 127, 1}, {"for i in $w; do break; done", "", 0, 3}, {"for i in $f; do echo ${#i}; done", "65536\n", 0, 3},
	} {
		hold(t, x, vars)
	}
	holdFails(t, []fails{
		{"echo $f$o", "", api.ErrBig, 1}, {"echo \"$f$o\"", "", api.ErrBig, 1}, {"echo a$f", "", api.ErrBig, 1}, {"echo $f' '", "", api.ErrBig, 1}, {"echo $r", "", api.ErrBig, 1}, {"echo \"$r\"", "", api.ErrBig, 1}, {"echo \"$w\"", "", api.ErrBig, 1}, {"echo $w$f$o", "", api.ErrBig, 1}, {"echo $f$o$w", "", api.ErrBig, 1}, {"echo ${r:-a}", "", api.ErrBig, 1}, {"$f$o", "", api.ErrBig, 1}, {"exit $f$o", "", api.ErrBig, 1}, {"break $f$o", "", api.ErrBig, 1}, {"eval \"$f$o\"", "", api.ErrBig, 1}, {"read $r", "", api.ErrBig, 1}, {"for i in a $f$o; do echo b; done", "", api.ErrBig, 1}, {"echo $f$o | echo a", "", api.ErrBig, 1}, {"echo a | sed p | echo $f$o", "", api.ErrBig, 3}, {"echo a; echo $(echo b; echo $r)", "a\n", api.ErrBig, 4},
		// Behind the parts of its word, and ahead of other words.
		{"echo $f$o$((1/0))", "", api.ErrZero, 1}, {"echo \"$f$o$((1/0))\"", "", api.ErrZero, 1}, {"echo $f$o $((1/0))", "", api.ErrBig, 1}, {"echo $((1/0)) $f$o", "", api.ErrZero, 1}, {"echo $f$o$(echo a)", "", api.ErrBig, 2}, {"echo $f$o $(echo a)", "", api.ErrBig, 1}, {"echo $(echo a) $f$o", "", api.ErrBig, 2},
		// Not laid, however long it would be.
		{"echo a; echo " + strings.Repeat("$f", 1<<14), "a\n", api.ErrBig, 2},
	}, vars)
}

// P14.2: what a PCmd puts out, as it is put out: with what is trimmed.
func TestCaughtBig(t *testing.T) {
	vars := sized()
	for _, x := range []ends{
		{"x=$(echo \"$g\"); echo ${#x}", "65535\n", 0, 3}, {"x=$(echo \"$g\"; true; echo | true); echo ${#x}", "65535\n", 0, 5}, {"x=$(echo \"$f\" | true); echo \"<$x>\"", "<>\n", 0, 3}, {"x=$(echo \"$f\" | sed 's/f*/a/'); echo $x", "a\n", 0, 5}, {"x=$(y=$(echo \"$g\"); echo ${#y}); echo $x", "65535\n", 0, 5}, {"x=$(echo \"$g\")$(echo); echo ${#x}", "65535\n", 0, 4},
	} {
		hold(t, x, vars)
	}
	holdFails(t, []fails{
		{"x=$(echo \"$f\")", "", api.ErrBig, 2}, {"x=$(echo \"$g\"; echo)", "", api.ErrBig, 3}, {"x=$(echo \"$g\"; echo; echo $((1/0)))", "", api.ErrBig, 3}, {"x=$(echo; echo \"$g\")", "", api.ErrBig, 3}, {"x=$(echo $g $o)", "", api.ErrBig, 2}, {"echo $(echo \"$f\")", "", api.ErrBig, 2}, {"x=$(y=$(echo \"$f\"))", "", api.ErrBig, 3}, {"x=$(echo \"$f\" | sed p)", "", api.ErrBig, 4}, {"x=$(eval 'echo \"$f\"')", "", api.ErrBig, 3}, {"x=$(for i in a b; do echo \"$h\"; done)", "", api.ErrBig, 6},
	}, vars)
	r, _, left := Run(read(t, "echo a; x=$(while :; do echo; done); echo c"), nil, nil, 1000000)
	if want := (api.Result{Out: "a\n", Status: 2, E: api.ErrBig}); r != want || left != 1000000-(1+1+1+65537*3) {
		t.Errorf("%s, %d left", brief(r), left)
	}
}

// P14.2: all that is put out.
func TestOutBig(t *testing.T) {
	vars := sized()
	full := strings.Repeat(vars[1].Value+"\n", 16)
	const fill = "for i in 1 2 3 4 5 6 7 8 9 10 11 12 13 14 15 16; do echo $g; done; "
	const takes = 1 + 16*2
	if len(full) != 1<<20 {
		t.Fatal(len(full))
	}
	for _, x := range []ends{{fill, full, 0, takes}, {fill + "true; x=$(echo a); echo a | true", full, 0, takes + 4}, {fill + "false", full, 1, takes + 1}, {fill + "exit 4; echo", full, 4, takes + 1}} {
		hold(t, x, vars)
	}
	holdFails(t, []fails{{fill + "echo", full, api.ErrBig, takes + 1}, {fill + "echo $f", full, api.ErrBig, takes + 1}, {fill + "eval echo", full, api.ErrBig, takes + 2}, {fill + "echo a | sed p", full, api.ErrBig, takes + 3}, {fill + "false || echo", full, api.ErrBig, takes + 3}}, vars)
	// What doesn't fit isn't put out at all.
	out := strings.TrimSuffix(full, vars[1].Value+"\n") + strings.Repeat("h", 32768) + "\n"
	part := strings.Replace(fill, " 16;", ";", 1) + "echo $h; "
	holdFails(t, []fails{{part + "echo $h", out, api.ErrBig, takes}, {part + "echo a; echo $f; echo b", out + "a\n", api.ErrBig, takes + 1}}, vars)
	// What subshells put out counts nothing there.
	hold(t, ends{"for i in " + strings.Repeat("a ", 40) + "; do x=$(echo $g); done; echo ${#x}", "65535\n", 0, 1 + 40*3 + 1}, vars)
}

// P14.2: where no fuel is left.
func TestNoFuel(t *testing.T) {
	for _, s := range []string{"while :; do :; done", "while true; do x=$(echo a); done", "while :; do continue; done", "while continue; do :; done", "while read x || :; do echo $x; done", "while :; do while :; do break; done; done", "while x=$(while :; do :; done); do :; done", "for i in a; do while :; do for j in b c; do continue 2; done; done; done", "echo a | sed ':x;bx'", "x=$(echo a | sed ':x;bx')", "while :; do eval continue; done", "while :; do exit 256; done"} {
		l := read(t, s)
		so := ""
		for _, fuel := range []int{math.MinInt, -1, 0, 1, 2, 3, 4, 5, 6, 7, 8, 9, 10, 20, 50, 99, 1000} {
			r, after, left := Run(l, nil, []string{"l"}, fuel)
			if r.Status != 2 || r.E != api.ErrFuel || len(after) > 0 || left != 0 || !strings.HasPrefix(r.Out, so) {
				t.Errorf("%q with %d: %s, %d variables and %d left", s, fuel, brief(r), len(after), left)
			}
			so = r.Out
		}
	}
}

// P14.2: ErrBig and ErrFuel of sed end all, with what it leaves of fuel.
func TestSedFails(t *testing.T) {
	vars := sized()
	f := vars[0].Value
	hold(t, ends{"echo $f | sed 's/f/g/'", "g" + f[1:] + "\n", 0, 3}, vars)
	hold(t, ends{"echo $f$z | sed p", f + "\n" + f + "\n", 0, 3}, vars)
	holdFails(t, []fails{
		{"echo $f | sed 's/f/gg/'", "", api.ErrBig, 3}, {"echo a; echo $f | sed 'p;s/f/gg/;p' || echo b; echo c", "a\n", api.ErrBig, 1 + 1 + 1 + 3}, {"x=$(echo $f | sed 's/$/g/')", "", api.ErrBig, 4}, {"echo $f | sed 'G' | sed p", "", api.ErrBig, 3}, {"echo $h | sed 'h;G;G'", "", api.ErrBig, 4}, {"echo $f | sed 's/f/gg/' | echo $((1/0))", "", api.ErrBig, 3},
	}, vars)
	// Wrong ones end nothing.
	hold(t, ends{"echo a | sed 's/a'; echo b | sed 'b x' | echo c", "c\n", 0, 2}, vars)
}

// P14.2: evals in one another, whether their texts can be read or not.
func TestEvalDeep(t *testing.T) {
	nest := func(many int, s string) string { return strings.Repeat("eval ", many) + s }
	for many := range 31 {
		hold(t, ends{nest(many, "echo a"), "a\n", 0, many + 1}, nil)
	}
	thirty := strings.Repeat("a ", 30)
	for _, x := range []ends{
		// One behind the other is no depth.
		{"for i in " + thirty + thirty + "; do eval :; done", "", 0, 1 + 60*3}, {nest(30, ":") + ";" + nest(30, "echo a"), "a\n", 0, 62}, {"eval '" + nest(29, ":") + ";" + nest(29, "echo a") + "'", "a\n", 0, 61},
		// Its words aren't in it.
		{"eval $(" + nest(30, "echo echo a") + ")", "a\n", 0, 1 + 31 + 1},
		// Of a pipe it is none.
		{"echo a | " + nest(40, "b") + " | echo c", "c\n", 0, 1},
	} {
		hold(t, x, nil)
	}
	const until = "n=0; e='n=$((n+1)); if test $n = ~; then eval \")\"; else eval \"$e\"; fi'; eval \"$e\""
	// Of each eval: itself, n, the choice, what it asks.
	holdFails(t, []fails{
		{nest(31, "echo a"), "", api.ErrDeep, 31}, {nest(31, ""), "", api.ErrDeep, 31}, {nest(40, "echo a"), "", api.ErrDeep, 31}, {"e='eval \"$e\"'; eval \"$e\"", "", api.ErrDeep, 1 + 31}, {"e='eval $e'; eval $e", "", api.ErrDeep, 1 + 31}, {"echo a; e='echo b; eval \"$e\"'; eval \"$e\"", "a\n" + strings.Repeat("b\n", 30), api.ErrDeep, 2 + 30*2 + 1},
		// In subshells, too.
		{"e='x=$(eval \"$e\")'; eval \"$e\"", "", api.ErrDeep, 1 + 30*2 + 1}, {"e='$(eval \"$e\")'; eval \"$e\"", "", api.ErrDeep, 1 + 30*2 + 1}, {"e='for i in a; do eval \"$e\"; done'; eval \"$e\"", "", api.ErrDeep, 1 + 30*3 + 1},
		{strings.Replace(until, "~", "30", 1), "", api.ErrDeep, 2 + 30*4 + 1}, {strings.Replace(until, "~", "29", 1), "", api.ErrSyntax, 2 + 29*4 + 1}, {strings.Replace(until, "~", "1", 1), "", api.ErrSyntax, 2 + 4 + 1},
	}, nil)
}

// P14.2: an eval's text that can't be read, for whatever reason.
func TestEvalFails(t *testing.T) {
	holdFails(t, []fails{
		{"eval '('", "", api.ErrSyntax, 1}, {"eval fi", "", api.ErrSyntax, 1}, {"eval '\"'", "", api.ErrSyntax, 1}, {"eval 'echo a; fi'", "", api.ErrSyntax, 1}, {"eval echo a '&'", "", api.ErrSyntax, 1}, {"eval 'if true; then'", "", api.ErrSyntax, 1}, {"echo a; eval '(' || echo b; echo c", "a\n", api.ErrSyntax, 3}, {"echo a; x=$(echo b; eval '(')", "a\n", api.ErrSyntax, 4}, {"eval \"eval ')'\"", "", api.ErrSyntax, 2}, {"x='a=$((1))'; eval \"$x\"; eval 'x=$((1'", "", api.ErrSyntax, 4},
		{"eval '" + strings.Repeat("if ", 31) + "'", "", api.ErrSyntax, 1}, {"eval '" + strings.Repeat("x=$(", 31) + strings.Repeat(")", 31) + "'", "", api.ErrSyntax, 1},
	}, nil)
	hold(t, ends{"eval '" + strings.Repeat("x=$(", 30) + strings.Repeat(")", 30) + "'", "", 0, 31}, nil)
	// A text that is too long: with one byte less it is a remark.
	rest := strings.Repeat("a", api.MaxScript-2-15*(api.MaxShell+1))
	vars := append(sized(), api.Var{Name: "x", Value: rest}, api.Var{Name: "y", Value: rest + "a"})
	long := "eval '#' " + strings.Repeat("$f ", 15)
	hold(t, ends{long + "$x", "", 0, 1}, vars)
	holdFails(t, []fails{{long + "$y", "", api.ErrSyntax, 1}, {long + "$f $f $f", "", api.ErrSyntax, 1}}, vars)
}

// P14.3: what can't be read puts nothing out; what can runs without variables.
func TestScript(t *testing.T) {
	for _, x := range []struct {
		script string
		e      api.Errno
	}{
		{"fi", api.ErrSyntax}, {"echo a; fi", api.ErrSyntax}, {"echo a; echo \"", api.ErrSyntax}, {"echo a\n(", api.ErrSyntax}, {"a &", api.ErrSyntax}, {"exit 3; if", api.ErrSyntax}, {"echo a; " + strings.Repeat("if ", 31), api.ErrDeep}, {strings.Repeat("x=$(", 31) + strings.Repeat(")", 31), api.ErrDeep}, {"#" + strings.Repeat("a", api.MaxScript), api.ErrBig}, {strings.Repeat("(", api.MaxScript+1), api.ErrBig},
	} {
		for _, fuel := range []int{100, 0, -1} {
			if r, want := Script(x.script, []string{"l"}, fuel), (api.Result{Status: 2, E: x.e}); r != want {
				t.Errorf("%.40q with %d: %s, not %s", x.script, fuel, brief(r), brief(want))
			}
		}
	}
	for _, x := range []ends{{"x=a; echo \"$x b\" $x", "a b a\n", 0, 2}, {"#" + strings.Repeat("a", api.MaxScript-1), "", 0, 0}, {"echo \"<$x$PATH$HOME>\"", "<>\n", 0, 1}, {strings.Repeat("x=$(", 30) + strings.Repeat(")", 30), "", 0, 30}, {"\n\n", "", 0, 0}} {
		hold(t, x, nil)
	}
}
