package stream

import (
	"reflect"
	"slices"
	"strings"
	"testing"

	"dragoman/api"
)

// P9.3: what is put out within some fuel comes first with more; and once it is enough, only what is left changes.
func TestMoreFuel(t *testing.T) {
	next := row(3)
	more := 0
	for range 1500 {
		s := strayScript(next, 6)
		l, lines := script(t, s), strayLines(next, 6)
		quiet := next(3) == 0
		var before []string
		left, e := 0, api.ErrFuel
		for fuel := range 80 {
			out, rest, f := Run(l, lines, quiet, fuel)
			if len(out) < len(before) || !slices.Equal(out[:len(before)], before) {
				t.Fatalf("%q over %q, %v: %q with %d, but %q with one less", s, lines, quiet, out, fuel, before)
			}
			switch {
			case fuel > 0 && e != api.ErrFuel && (len(out) != len(before) || f != e || rest != left+1):
				t.Fatalf("%q over %q, %v: %q %d %d with %d, though it ended with less", s, lines, quiet, out, rest, f, fuel)
			case f == api.ErrFuel && rest != 0:
				t.Fatalf("%q over %q, %v: %d left with %d", s, lines, quiet, rest, fuel)
			case len(out) > len(before):
				more++
			}
			before, left, e = out, rest, f
			text, _, _ := Text(told(lines), s, quiet, fuel)
			if plain := !strings.Contains(strings.Join(lines, ""), "\n"); plain && text != told(out) {
				t.Fatalf("%q over %q, %v, %d: %q, not as Run", s, lines, quiet, fuel, text)
			}
		}
	}
	if more < 1500 {
		t.Errorf("more was put out %d times", more)
	}
}

// P9.3: without commands, unless quiet, all lines are put out.
func TestAllLines(t *testing.T) {
	next := row(31)
	for range 2000 {
		lines := strayLines(next, 20)
		for _, l := range [][]api.SedCmd{nil, {}, script(t, " ;\n")} {
			if out, left, e := Run(l, lines, false, 20); !slices.Equal(out, lines) || left != 20-len(lines) || e != api.OK {
				t.Fatalf("%q: %q %d %d", lines, out, left, e)
			}
			if out, left, e := Run(l, lines, true, 20); len(out) != 0 || left != 20-len(lines) || e != api.OK {
				t.Fatalf("%q, quiet: %q %d %d", lines, out, left, e)
			}
		}
		s := told(lines)
		if out, _, e := Text(s, "", false, 100); out != s || e != api.OK {
			t.Fatalf("%q: %q %d", s, out, e)
		}
	}
}

// P9.3: what Lines tells, each with its end, is the text, and its end, where it has none.
func TestLinesTold(t *testing.T) {
	next := row(17)
	for range 5000 {
		var b strings.Builder
		for range next(9) {
			b.WriteString([]string{"a", "\n", "\r", "\x00"}[next(4)])
		}
		s := b.String()
		want := s
		if s != "" && !strings.HasSuffix(s, "\n") {
			want += "\n"
		}
		l := Lines(s)
		if got := told(l); got != want {
			t.Fatalf("Lines(%q): %q", s, l)
		}
		if slices.ContainsFunc(l, func(line string) bool { return strings.Contains(line, "\n") }) {
			t.Fatalf("Lines(%q): %q", s, l)
		}
	}
}

// answer is what a call answers.
type answer struct {
	out  []string
	left int
	e    api.Errno
}

// R3, R4: nothing is kept between calls, in whatever turns they come: neither a hold space, nor what is on, nor where labels stand.
func TestNothingKept(t *testing.T) {
	scripts := []string{"", "1,/z/p", "/a/,/b/!s/a/x/p", "H;x", "h", "G", "s/a/b/;tx;d;:x;p", "bx;d;:x;:y;by", ":y;n;:x;b", "2q", "s/a/&&/g;G;H;x;s/$/!/"}
	texts := [][]string{nil, {"a"}, {"a", "b", "ab"}, {"", "a", "", "c"}}
	var before []answer
	for round := range 3 {
		at := 0
		for _, s := range scripts {
			l := script(t, s)
			kept := script(t, s)
			for _, lines := range texts {
				was := slices.Clone(lines)
				for i, fuel := range []int{0, 3, 50, 50} {
					out, left, e := Run(l, lines, i == 3, fuel)
					got := answer{out, left, e}
					if !slices.Equal(lines, was) || !reflect.DeepEqual(l, kept) {
						t.Fatalf("%q and %q were written into: %v, %q", s, was, l, lines)
					}
					if round == 0 {
						before = append(before, got)
					} else if !reflect.DeepEqual(got, before[at]) {
						t.Fatalf("asked again of %q, %q, %d: %v, not %v", s, lines, fuel, got, before[at])
					}
					at++
				}
			}
		}
	}
}

// R3: rows with room behind them aren't written into there; answers are nobody else's.
func TestNothingShared(t *testing.T) {
	room := []string{"a", "b", "kept", "kept"}
	commands := script(t, "p;d;q;q")
	for range 2 {
		if out, left, e := Run(commands[:1], room[:2], false, 10); !slices.Equal(out, []string{"a", "a", "b", "b"}) || left != 6 || e != api.OK {
			t.Errorf("Run: %q %d %d", out, left, e)
		}
	}
	if !slices.Equal(room, []string{"a", "b", "kept", "kept"}) || !reflect.DeepEqual(commands, script(t, "p;d;q;q")) {
		t.Errorf("written into: %q %v", room, commands)
	}
	one, _, _ := Run(nil, room[:2], false, 10)
	two, _, _ := Run(nil, room[:2], false, 10)
	lines, others := Lines(abc), Lines(abc)
	for _, l := range [][]string{one, lines} {
		for i := range l {
			l[i] = "gone"
		}
		_ = append(l[:1], "gone", "gone")
	}
	if !slices.Equal(two, []string{"a", "b"}) || room[0] != "a" || !slices.Equal(others, []string{"a", "b", "c"}) || !slices.Equal(Lines(abc), others) {
		t.Errorf("changed by another one: %q %q %q", two, room, others)
	}
}

// R4: all calls at once: there is nothing that they could keep.
func TestAtOnce(t *testing.T) {
	l := script(t, ":x;s/a/b/;tx;/c/,/b/!G;H;$!d;x")
	lines := slices.Repeat([]string{"aa", "c", "ab"}, 30)
	want, left, e := again(l, lines, false, 5000)
	done := make(chan answer)
	for range 8 {
		go func() {
			out, left, e := Run(l, lines, false, 5000)
			done <- answer{out, left, e}
		}()
	}
	for range 8 {
		if got := <-done; !reflect.DeepEqual(got, answer{want, left, e}) {
			t.Errorf("at once: %v", got)
		}
	}
}
