package shvm

import (
	"fmt"
	"math"
	"slices"
	"strings"
	"testing"

	"dragoman/api"
	"dragoman/shell"
)

// strays are texts of all kinds of bytes.
func strays() []string {
	l := []string{"", " ", "\t", "\n", "a\n", "\n\n", " a ", "'", "\"", "\\", "$x", "${x}", "$(echo a)", "`echo a`", "$((1/0))", "; echo b", "| sed p", "|| echo", "# a", "*", "~", "[a-z]", "a=b", "-n", "fi", "done", "\x00", "\xff\xfe", "é\u00a0\u2028", "a\r\n", "&", ">x", "{a,b}", strings.Repeat("ab \n", 16384)}
	next := stray(14)
	for i := range 300 {
		b := make([]byte, i%40)
		for k := range b {
			b[k] = byte(next(256))
		}
		l = append(l, string(b))
	}
	return l
}

// P14.4: what stands in quotes is one field.
func TestQuoted(t *testing.T) {
	count, each := "n=0; for i in ~; do n=$((n+1)); done; echo $n", "for i in ~; do echo \"$i\"; done"
	for _, s := range strays() {
		if got := Fields([]string{s}, []bool{true}); len(got) != 1 || got[0] != s {
			t.Errorf("Fields of %.40q: %.40q", s, got)
		}
		vars := []api.Var{{Name: "x", Value: s}}
		for _, x := range [][2]string{{"\"$x\"", s}, {"\"${x:-}\"", s}, {"\"${x#}\"", s}, {"'' ''", "\n"}, {"\"\"\"$x\"''", s}, {"\"$(echo \"$x\")\"", Trim(s + "\n")}} {
			if len(s) > 60000 && x[1] != s {
				continue
			}
			r, _, _ := Run(read(t, strings.ReplaceAll(each, "~", x[0])), vars, nil, 100)
			if want := (api.Result{Out: x[1] + "\n"}); r != want {
				t.Errorf("%s of %.40q: %.80q, not %.80q", x[0], s, r.Out, want.Out)
			}
			want := "1\n"
			if x[0] == "'' ''" {
				want = "2\n"
			}
			r, _, _ = Run(read(t, strings.ReplaceAll(count, "~", x[0])), vars, nil, 100)
			if r.Out != want || r.E != api.OK {
				t.Errorf("%s of %.40q: %q fields, not %q", x[0], s, r.Out, want)
			}
		}
		if strings.Contains(s, "'") {
			continue
		}
		r := Script("echo '"+s+"'", nil, 1)
		if want := (api.Result{Out: s + "\n"}); r != want {
			t.Errorf("in quotes, %.40q: %.80q", s, r.Out)
		}
	}
}

// T5: a line comes out as it went in.
func TestNoOperator(t *testing.T) {
	in := strays()
	want := strings.Join(in, "\n") + "\n"
	for _, s := range []string{"while read x; do echo \"$x\"; done", "while read x; do y=$x; z=$y; echo \"$z\"; done", "while read x; do y=x; eval \"z=\\$$y\"; echo \"$z\"; done", "while read x; do v=$(hex \"$x\"); if test \"$v\" != x; then eval \"v_$v=\\$x\"; eval \"y=\\$v_$v\"; else y=$x; fi; echo \"$y\"; done"} {
		// What no value holds is left out.
		if strings.Contains(s, "hex") {
			in = slices.DeleteFunc(slices.Clone(in), func(line string) bool { return len(line) > 1000 })
			want = strings.Join(in, "\n") + "\n"
		}
		if r := Script(s, in, 100000); r.Out != want || r.Status != 0 || r.E != api.OK {
			t.Errorf("%q: %d, %v, as they are: %v", s, r.Status, r.E, r.Out == want)
		}
	}
}

// P14.4: what is put out within some fuel is what is put out first with more, also where it ends with an error.
func TestMore(t *testing.T) {
	for _, s := range []string{"while :; do echo a; done", "for i in 1 2 3; do echo $i; for j in a b; do echo $(echo $i)$j; done; done", "while read x; do echo \"$x\" | sed p; done; echo $((1/0))", "e='echo a; eval \"$e\"'; eval \"$e\"", "x=a; while echo ${#x}; do x=$x$x; done", "echo a; exit 3; echo b", "echo a; x=$(echo b; echo c); echo $x; eval '('", "while :; do echo 1 | sed ':x;s/1/11/;/1111111111/!bx'; done"} {
		l := read(t, s)
		all, _, _ := Run(l, nil, []string{"b", "c"}, 300)
		so := ""
		for fuel := range 300 {
			r, _, left := Run(l, nil, []string{"b", "c"}, fuel)
			if !strings.HasPrefix(r.Out, so) || !strings.HasPrefix(all.Out, r.Out) || r.E == api.ErrFuel && left != 0 || r.E != api.ErrFuel && r != all {
				t.Fatalf("%q with %d: %s, %d left, with one less %.99q", s, fuel, brief(r), left, so)
			}
			so = r.Out
		}
	}
}

// deepCopy is commands of their own memory.
func deepCopy(l []api.Cmd) []api.Cmd {
	words := func(l []api.Word) []api.Word {
		var out []api.Word
		for _, w := range l {
			var parts []api.Part
			for _, p := range w.L {
				p.L = deepCopy(p.L)
				parts = append(parts, p)
			}
			out = append(out, api.Word{L: parts})
		}
		return out
	}
	var out []api.Cmd
	for _, c := range l {
		out = append(out, api.Cmd{Kind: c.Kind, Names: slices.Clone(c.Names), Values: words(c.Values), Words: words(c.Words), A: deepCopy(c.A), B: deepCopy(c.B), C: deepCopy(c.C)})
	}
	return out
}

// R3: what is handed in isn't written into, nor is the room behind it; what comes out is nobody else's.
func TestNothingShared(t *testing.T) {
	l := read(t, "x=1; y=$(x=2; read z; echo $x); for i in $in a; do read z || eval 'x=$((x+1))'; k=$i; done; echo $k | sed p; a=0")
	kept := deepCopy(l)
	room := append(make([]api.Var, 0, 9), api.Var{Name: "in", Value: "b c"}, api.Var{Name: "x", Value: "old"}, api.Var{Name: "zz", Value: "old"}, api.Var{Name: "zzz", Value: "kept"})
	lines := []string{"l1", "l2", "kept"}
	wantRoom, wantLines := slices.Clone(room), slices.Clone(lines)
	_, first, _ := Run(l, room[:3], lines[:2], 1000)
	want := slices.Clone(first)
	for i := range first {
		first[i].Value = "gone"
	}
	_ = append(first[:1], api.Var{Name: "gone"})
	_, second, _ := Run(l, room[:3], lines[:2], 1000)
	if !slices.Equal(second, want) || !slices.Equal(room, wantRoom) || !slices.Equal(lines, wantLines) || !shell.Same(l, kept) {
		t.Errorf("changed: %.999s", fmt.Sprint(second, room, lines))
	}
	// Also where nothing is assigned.
	for _, s := range []string{"", "echo a", "y=$(in=5)", "exit"} {
		_, after, _ := Run(read(t, s), room[:3], nil, 10)
		for i := range after {
			after[i].Value = "gone"
		}
		_ = append(after, api.Var{Name: "gone"})
		if !slices.Equal(room, wantRoom) {
			t.Fatalf("%q: written into: %q", s, room)
		}
	}
}

// R4: calls in turns, and at once, answer as they do alone.
func TestNothingKept(t *testing.T) {
	var scripts []string
	var alone []api.Result
	for seed := range uint64(300) {
		m := &maker{next: stray(seed + 777)}
		s := m.list(2)
		scripts = append(scripts, s)
		alone = append(alone, Script(s, []string{"a", "b"}, 150))
	}
	for i := len(scripts) - 1; i >= 0; i-- {
		if r := Script(scripts[i], []string{"a", "b"}, 150); r != alone[i] {
			t.Errorf("%q once more: %s, not %s", scripts[i], brief(r), brief(alone[i]))
		}
	}
	l := read(t, "x=1; for i in a b c; do x=$x$i; y=$(x=q; echo $x$i); done; echo $x$y")
	vars := []api.Var{{Name: "x", Value: "0"}}
	done := make(chan bool)
	for range 8 {
		go func() {
			same := true
			for i, s := range scripts {
				r, _, _ := Run(l, vars, nil, 100)
				same = same && Script(s, []string{"a", "b"}, 150) == alone[i] && r.Out == "1abcqc\n"
			}
			done <- same
		}()
	}
	for range 8 {
		if !<-done {
			t.Error("at once it is something else")
		}
	}
}

// wild are commands that no text is read as.
type wild struct{ next func(below int) int }

func (m *wild) cmds(deep int) []api.Cmd {
	var l []api.Cmd
	for range m.next(3 + min(deep, 1)) {
		c := api.Cmd{Kind: m.next(9) - 1, Words: m.words(deep)}
		for range m.next(3) {
			c.Names = append(c.Names, []string{"x", "y", "", "1", "a b", "\xff"}[m.next(6)])
		}
		c.Values = m.words(deep)
		if deep > 0 {
			c.A, c.B, c.C = m.cmds(deep-1), m.cmds(deep-1), m.cmds(deep-1)
		}
		l = append(l, c)
	}
	return l
}

func (m *wild) words(deep int) []api.Word {
	texts := []string{"", "x", "echo", "eval", "read", "break", "continue", "exit", "test", "sed", "1", "(", "))", "p", " ", "x=1", "while :; do :; done"}
	var l []api.Word
	for range m.next(4) {
		var w api.Word
		for range m.next(3) {
			p := api.Part{Kind: m.next(11) - 1, Quoted: m.next(2) == 0, S: texts[m.next(len(texts))], T: texts[m.next(len(texts))]}
			if m.next(2) == 0 {
				p.Kind = api.PLit
			}
			if deep > 0 && m.next(2) == 0 {
				p.L = m.cmds(deep - 1)
			}
			w.L = append(w.L, p)
		}
		l = append(l, w)
	}
	return l
}

// R1: also of commands that no text is read as there is an answer, and it hangs on nothing else.
func TestWild(t *testing.T) {
	t.Parallel()
	for seed := range uint64(20000) {
		m := &wild{next: stray(seed + 99)}
		l := m.cmds(int(seed % 4))
		vars := []api.Var{{Name: "x", Value: "1 2"}, {Name: "a", Value: "not in order"}, {Name: ""}, {Name: "x", Value: "twice"}}[:m.next(5)]
		so := ""
		for _, fuel := range []int{math.MinInt, 0, 3, 40, 200} {
			r, after, left := Run(l, vars, []string{"l"}, fuel)
			again, _, _ := Run(l, vars, []string{"l"}, fuel)
			if r != again || left < 0 || left > max(fuel, 0) || !strings.HasPrefix(r.Out, so) || r.E != api.OK && (r.Status != 2 || len(after) > 0) {
				t.Fatalf("%.999s with %d: %s, %s, %d left", fmt.Sprint(l), fuel, brief(r), brief(again), left)
			}
			so = r.Out
		}
	}
	for _, kind := range []int{math.MinInt, -1, 0, 7, math.MaxInt} {
		r, _, left := Run([]api.Cmd{{Kind: kind}}, nil, nil, 5)
		if r != (api.Result{}) || left != 4 {
			t.Errorf("kind %d: %s, %d left", kind, brief(r), left)
		}
	}
	for _, kind := range []int{api.CSimple, api.CPipe, api.COr, api.CIf, api.CFor} {
		r, _, left := Run([]api.Cmd{{Kind: kind}}, nil, nil, 5)
		if r != (api.Result{}) || left != 4 {
			t.Errorf("kind %d with nothing: %s, %d left", kind, brief(r), left)
		}
	}
}

// R1: as deep as parts may be nested in one another.
func TestDeep(t *testing.T) {
	const deep = 1 << 16
	echo := read(t, "echo a")
	l := echo
	for range deep / 3 {
		l = []api.Cmd{{Kind: api.CSimple, Words: []api.Word{{L: []api.Part{{Kind: api.PLit, S: "echo"}}}, {L: []api.Part{{Kind: api.PCmd, L: l}}}}}}
	}
	if r, _, left := Run(l, nil, nil, deep); r != (api.Result{Out: "a\n"}) || left != deep-deep/3-1 {
		t.Errorf("%s, %d left", brief(r), left)
	}
	l = echo
	for range deep {
		l = []api.Cmd{{Kind: api.CIf, A: l, B: echo}}
	}
	if r, _, left := Run(l, nil, nil, 3*deep); len(r.Out) != 2*(deep+1) || r.E != api.OK || left != deep-1 {
		t.Errorf("%d bytes, %v, %d left", len(r.Out), r.E, left)
	}
	l = read(t, "break")
	for range deep {
		l = []api.Cmd{{Kind: api.CWhile, A: l, B: echo}}
	}
	if r, _, _ := Run(l, nil, nil, 10*deep); r.E != api.ErrFuel {
		t.Error(brief(r))
	}
	l = read(t, "break 65536")
	for range deep {
		l = []api.Cmd{{Kind: api.CFor, Names: []string{"i"}, Words: echo[0].Words, B: l}}
	}
	if r, _, left := Run(l, nil, nil, 3*deep); r != (api.Result{}) || left != deep-1 {
		t.Errorf("%s, %d left", brief(r), left)
	}
}
