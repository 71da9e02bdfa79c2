package shvm

import (
	"slices"
	"strings"
	"testing"

	"dragoman/api"
)

// P14.2: parts' values.
func TestParts(t *testing.T) {
	vars := []api.Var{{Name: "e"}, {Name: "n", Value: "-12"}, {Name: "s", Value: " a  b "}, {Name: "x", Value: "abcab"}}
	for _, x := range [][2]string{
		{`a`, "a"}, {`'a b'`, "a b"}, {`"a b"`, "a b"}, {`a' 'b`, "a b"}, {`\$x`, "$x"}, {`'$x'`, "$x"}, {`''`, ""},
		{`$x`, "abcab"}, {`"$x"`, "abcab"}, {`${x}c`, "abcabc"}, {`"$s"`, " a  b "}, {`$s`, "a b"}, {`"$e"`, ""}, {`"$none"`, ""}, {`a$none`, "a"}, {`"$X"`, ""}, {`$x$n`, "abcab-12"},
		{`${x:-d}`, "abcab"}, {`${e:-d}`, "d"}, {`${none:-d}`, "d"}, {`"${none:-}"`, ""}, {`"${none:- d  e }"`, " d  e "}, {`${none:- d  e }`, "d e"}, {`"${s:-d}"`, " a  b "}, {`"${none:-x}"`, "x"},
		{`${#x}`, "5"}, {`${#e}`, "0"}, {`${#none}`, "0"}, {`${#s}`, "6"}, {`"${#x}"`, "5"}, {`${#n}${#n}`, "33"},
		{`${x#ab}`, "cab"}, {`${x#a}`, "bcab"}, {`${x#abcab}_`, "_"}, {`${x#abcabc}`, "abcab"}, {`${x#c}`, "abcab"}, {`${x#}`, "abcab"}, {`${x#b}`, "abcab"}, {`"${s# a }"`, " b "}, {`"${e#a}"`, ""}, {`"${none#a}"`, ""}, {`"${s# }"`, "a  b "}, {`${x#*}`, "abcab"}, {`${x#?}`, "abcab"},
		{`${x%ab}`, "abc"}, {`${x%b}`, "abca"}, {`${x%abcab}_`, "_"}, {`${x%cabcab}`, "abcab"}, {`${x%c}`, "abcab"}, {`${x%}`, "abcab"}, {`${x%a}`, "abcab"}, {`"${s% b }"`, " a "}, {`"${e%a}"`, ""}, {`"${none%a}"`, ""}, {`"${s% }"`, " a  b"}, {`${x%*}`, "abcab"},
		{`$((1 + 2))`, "3"}, {`$((n * 2))`, "-24"}, {`"$((none))"`, "0"}, {`$((e - 1))`, "-1"}, {`$((-9223372036854775807 - 1))`, "-9223372036854775808"}, {`$((9223372036854775807 + 1))`, "-9223372036854775808"}, {`$((1 || 1 / 0))`, "1"}, {`$((-0))`, "0"}, {`$((007))`, "7"},
		{`$(echo a)`, "a"}, {`"$(echo 'a  b')"`, "a  b"}, {`$(echo 'a  b')`, "a b"}, {`"$(echo 'a'; echo)"`, "a"}, {`"$(echo; echo a; echo; echo)"`, "\na"}, {`"$(echo 'a ')"`, "a "}, {`"$()"`, ""}, {`a$()b`, "ab"}, {`"$(true)"`, ""}, {`"$(echo a)$(echo b)"`, "ab"}, {`"$(echo "$(echo "$x")")"`, "abcab"}, {`"$(echo a | sed p)"`, "a\na"}, {`$(echo a | sed p)`, "a a"}, {`"$(nope)"`, ""},
		{`"$(echo a; echo b)c"`, "a\nbc"}, {`a"$x"'$x'$x`, "aabcab$xabcab"},
	} {
		l := read(t, "echo "+x[0])
		if r, _, _ := Run(l, vars, nil, 100); r != (api.Result{Out: x[1] + "\n"}) {
			t.Errorf("echo %s: %s, not %q", x[0], brief(r), x[1])
		}
	}
	// A value is all of these, not cut.
	for _, x := range [][2]string{
		{`$s`, " a  b "}, {`a$s$s`, "a a  b  a  b "}, {`$none`, ""}, {``, ""}, {`${none:- d  e }`, " d  e "}, {`$(echo ' a  b ')`, " a  b "}, {`$(echo a; echo b)`, "a\nb"}, {`$(echo)`, ""}, {`$((n))$s'"'`, "-12 a  b \""}, {`"$s"`, " a  b "}, {`$(echo "$s")`, " a  b "}, {`${#s}${s# a}`, "6  b "},
	} {
		_, after, _ := Run(read(t, "y="+x[0]), vars, nil, 100)
		if want := append(slices.Clone(vars), api.Var{Name: "y", Value: x[1]}); !slices.Equal(after, want) {
			t.Errorf("y=%s: %q, not %q", x[0], after, want)
		}
	}
}

// P14.2: a PLit counts as quoted, whether it is or not: also one that no text is read as.
func TestLiteral(t *testing.T) {
	for _, quoted := range []bool{true, false} {
		for _, x := range [][2]string{{"a  b", "<a  b>"}, {"", "<>"}, {" ", "< >"}, {"a\nb ", "<a\nb >"}} {
			l := read(t, "for i in a; do echo \"<$i>\"; done")
			l[0].Words[0].L[0] = api.Part{Kind: api.PLit, Quoted: quoted, S: x[0]}
			if r, _, left := Run(l, nil, nil, 3); r != (api.Result{Out: x[1] + "\n"}) || left != 0 {
				t.Errorf("%q: %s, %d left", x[0], brief(r), left)
			}
		}
	}
}

// P14.2: a subshell's variables begin as those around it, and are its own.
func TestSubshell(t *testing.T) {
	holdAll(t, []ends{
		{"x=1; y=$(x=2; echo $x); echo $x$y", "12\n", 0, 5}, {"x=1; echo $(echo $x; x=2; echo $x) $x", "1 2 1\n", 0, 5}, {"y=$(x=2); echo \"<$x>\"", "<>\n", 0, 3}, {"x=1; $(x=2; z=3); echo $x$z", "1\n", 0, 5}, {"x=1; y=$(z=$(x=3; echo $x); echo $z$x); echo $y$x", "311\n", 0, 7},
		{"x=1; y=$(for x in a b; do :; done; echo $x); echo $y$x", "b1\n", 0, 1 + 1 + 1 + 4 + 1 + 1}, {"x=1; y=$(read x; echo $x); echo $y$x", "in1\n", 0, 5}, {"x=1; y=$(eval x=5; echo $x); echo $y$x", "51\n", 0, 6},
		// What was assigned ahead of it, in its own command, too.
		{"x=1 y=$(echo $x) x=2 z=$(echo $x$y); echo $z", "21\n", 0, 4}, {"x=1 echo $(echo $x) $(x=2; echo $x) $x", "1 2 1\n", 0, 4}, {"x=$(echo a)$(x=b; echo $x)$x; echo $x", "ab\n", 0, 5}, {"x=1; x=2 y=$(x=3 z=4; echo $x$z) z=$x; echo $x$y$z", "2342\n", 0, 5},
		// A pipe's words are of the shell itself.
		{"x=1; echo $(x=2; echo $x) | sed p; echo $x", "2\n2\n1\n", 0, 7},
		// It is put out by none but what it stands in.
		{"x=$(echo a); y=$(echo b; z=$(echo c)); echo $x$y$z", "ab\n", 0, 7},
	}, "in")
}

// P14.2: the variables that a run ends with, by rising names.
func TestVars(t *testing.T) {
	vars := []api.Var{{Name: "b", Value: "1"}, {Name: "d", Value: "2"}}
	for _, x := range []struct {
		script string
		takes  int
		want   string
	}{
		{"", 0, "b=1 d=2"}, {"echo a", 1, ""}, {"a=0; c=$b; e=$d$d", 3, "a=0 b=1 c=1 d=2 e=22"}, {"d=9; b=8", 2, "b=8 d=9"}, {"d=", 1, "b=1 d="}, {"z=1 Z=2 _=3", 1, "Z=2 _=3 b=1 d=2 z=1"}, {"b=7 exit 0; d=6", 1, "b=7 d=2"}, {"a=1 a=2 a=3; b=$a", 2, "a=3 b=3 d=2"}, {"for a in x y; do c=$a; done", 5, "a=y b=1 c=y d=2"}, {"for a in; do :; done", 1, "b=1 d=2"}, {"x=$(b=5; y=6)", 3, "b=1 d=2 x="}, {"eval 'b=5; eval a=4'", 4, "a=4 b=5 d=2"}, {"read a; read c", 2, "a=l b=1 c= d=2"}, {"b=5; c=$(b=6; echo $b; b=7); b=$b$c", 6, "b=56 c=6 d=2"}, {"x=1 y=2 x=3 y=$x$y", 1, "b=1 d=2 x=3 y=32"},
	} {
		if x.want == "" {
			x.want = "b=1 d=2"
		}
		l := read(t, x.script)
		r, after, left := Run(l, vars, []string{"l"}, x.takes)
		var told []string
		for _, v := range after {
			told = append(told, v.Name+"="+v.Value)
		}
		if got := strings.Join(told, " "); got != x.want || r.E != api.OK || left != 0 {
			t.Errorf("%q: %q, not %q (%s, %d left)", x.script, got, x.want, brief(r), left)
		}
		if !slices.Equal(vars, []api.Var{{Name: "b", Value: "1"}, {Name: "d", Value: "2"}}) {
			t.Fatalf("%q: written into: %q", x.script, vars)
		}
	}
}
