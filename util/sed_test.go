package util

import (
	"math"
	"strings"
	"testing"

	"dragoman/api"
	"dragoman/sed"
	"dragoman/stream"
)

// P13.2: what is put out, and how much fuel that takes; with less nothing is put out.
func TestSed(t *testing.T) {
	for _, x := range []struct {
		words, in, out string
		takes          int
	}{
		{"sed p", "in\n", "in\nin\n", 2}, {"sed -n p", "in\n", "in\n", 2}, {"sed ", "a\nb", "a\nb\n", 2}, {"sed -n ", "a\nb", "", 2}, {"sed p", "", "", 0}, {"sed -n p", "", "", 0}, {"sed p", "\n", "\n\n", 2}, {"sed ", "\n\na", "\n\na\n", 3},
		{"sed 1d", "a\nb\n", "b\n", 4}, {"sed p", "x\ny\n", "x\nx\ny\ny\n", 4}, {"sed $!d", "a\nb\nc", "c\n", 6}, {"sed -n $p", "a\nb\nc", "c\n", 6}, {"sed 2q", "a\nb\nc", "a\nb\n", 4}, {"sed -n 2q", "a\nb\nc", "", 4}, {"sed s/a/[&]/g", "banana\n", "b[a]n[a]n[a]\n", 2}, {"sed -n s/a/b/p", "a\nc\na", "b\nb\n", 6}, {"sed s/^/\\x0a/", "a", "\na\n", 2}, {"sed :x;s/a/b/;tx", "aa", "bb\n", 10}, {"sed /a/,/b/d", "a\nb\nc\n", "c\n", 6}, {"sed s/\\xff/&&/", "\xff\n", "\xff\xff\n", 2}, {"sed G", "a\nb", "a\n\nb\n\n", 4},
		// The bytes of the text that are nothing to sed.
		{"sed -n p", "\x00\r\n\xff", "\x00\r\n\xff\n", 4},
	} {
		words := strings.Split(x.words, " ")
		for fuel := range x.takes {
			if got, want := ask(words, x.in, fuel), (answer{"", 2, 0, api.ErrFuel}); got != want {
				t.Errorf("Run(%q, %q, %d): %+v, not %+v", words, x.in, fuel, got, want)
			}
		}
		for _, more := range []int{0, 1, 2, 1000, math.MaxInt - x.takes} {
			if got, want := ask(words, x.in, x.takes+more), (answer{x.out, 0, more, api.OK}); got != want {
				t.Errorf("Run(%q, %q, %d): %+v, not %+v", words, x.in, x.takes+more, got, want)
			}
		}
	}
}

// P13.2: fuel below 0 is told as chapter 9 tells it.
func TestSedBelow(t *testing.T) {
	for _, fuel := range []int{0, -1, -7, math.MinInt} {
		if got, want := ask([]string{"sed", "p"}, "a", fuel), (answer{"", 2, 0, api.ErrFuel}); got != want {
			t.Errorf("with %d: %+v", fuel, got)
		}
		if got, want := ask([]string{"sed", "-n", "p"}, "", fuel), (answer{"", 0, 0, api.OK}); got != want {
			t.Errorf("of nothing, with %d: %+v", fuel, got)
		}
	}
}

// P13.2: words that are none of both forms, and scripts that are none, go wrong; chapter 8's ErrBig, too.
func TestSedWrong(t *testing.T) {
	nodes := strings.Repeat("a", api.MaxNodes)
	for i, words := range [][]string{
		{"sed"}, {"sed", "-n", "p", "p"}, {"sed", "p", "p"}, {"sed", "p", "-n"}, {"sed", "-x", "p"}, {"sed", "-n", "-n", "p"}, {"sed", "-N", "p"}, {"sed", "", "p"}, {"sed", "-np"}, {"sed", "-e", "p"}, {"sed", "-n", "-e", "p"}, {"sed", "--", "p"}, {"sed", "p", ""}, {"sed", "n", "p"},
		// ErrSyntax.
		{"sed", "-n"}, {"sed", "z"}, {"sed", "-n", "z"}, {"sed", "-n", "-n"}, {"sed", "s/a/b"}, {"sed", "s/[/b/"}, {"sed", "p p"}, {"sed", "p\x00"},
		// ErrName.
		{"sed", "bx"}, {"sed", "-n", ":x;:x"},
		// ErrDeep.
		{"sed", "/" + strings.Repeat("(", 31) + strings.Repeat(")", 31) + "/p"},
		// ErrBig: a text, commands, nodes.
		{"sed", strings.Repeat(";", api.MaxSource+1)}, {"sed", "-n", strings.Repeat("p;", api.MaxSource)}, {"sed", strings.Repeat("p;", api.MaxTokens+1)}, {"sed", "-n", strings.Repeat("p\n", api.MaxTokens+1)}, {"sed", "/" + nodes + "/p"}, {"sed", "-n", "s/" + nodes + "//"},
	} {
		for _, fuel := range []int{100, 1, 0, -7, math.MinInt, math.MaxInt} {
			for _, in := range []string{"", "in\n", strings.Repeat("a", api.MaxShell+1)} {
				if got, want := ask(words, in, fuel), (answer{"", 2, fuel, api.OK}); got != want {
					t.Errorf("%d: Run(%.40q, %.9q, %d): %+v, not %+v", i, words, in, fuel, got, want)
				}
			}
		}
	}
	// As long as may be.
	for _, script := range []string{strings.Repeat(";", api.MaxSource), strings.Repeat("p;", api.MaxTokens)} {
		if got, want := ask([]string{"sed", "-n", script}, "", 5), (answer{"", 0, 5, api.OK}); got != want {
			t.Errorf("of %d bytes: %+v", len(script), got)
		}
	}
}

// P13.2: ErrBig of a run, and what is left then; nothing is put out, whatever was so far.
func TestSedBig(t *testing.T) {
	long := strings.Repeat("a", api.MaxShell)
	for _, x := range []struct {
		words, in string
		fuel      int
		want      answer
	}{
		{"sed G", long, 10, answer{"", 2, 8, api.ErrBig}}, {"sed -n p;G", "b\n" + long, 10, answer{"", 2, 4, api.ErrBig}}, {"sed s/a/bb/", long, 2, answer{"", 2, 0, api.ErrBig}}, {"sed s/a/bb/", long, 1, answer{"", 2, 0, api.ErrFuel}}, {"sed -n s/$/b/", "b\n" + long, 5, answer{"", 2, 1, api.ErrBig}}, {"sed :x;s/.*/&&/;bx", "b", 1000, answer{"", 2, 1000 - 1 - 3*16 - 2, api.ErrBig}},
		{"sed G", long[1:], 10, answer{long[1:] + "\n\n", 0, 8, api.OK}}, {"sed s/b/c/", long + "a", 10, answer{long + "a\n", 0, 8, api.OK}},
	} {
		if got := ask(strings.Split(x.words, " "), x.in, x.fuel); got != x.want {
			t.Errorf("%s of %d bytes, with %d: %d bytes, %d %d %d", x.words, len(x.in), x.fuel, len(got.out), got.status, got.left, got.e)
		}
	}
}

// P13.2: what would be put out is put out nowhere, where fuel is gone, be it more than any memory holds.
func TestSedMuch(t *testing.T) {
	if got, want := ask([]string{"sed", "-n", ":x;p;bx"}, strings.Repeat("a", api.MaxShell), 3000000), (answer{"", 2, 0, api.ErrFuel}); got != want {
		t.Errorf("%d bytes, %d %d %d", len(got.out), got.status, got.left, got.e)
	}
}

// scripts are of many kinds, some of them none.
var scripts = []string{"", "p", "1d", "$!d", "n;d", "2q", "h;G", "x;p", "s/a/b/", "s/[ab]*/<&>/gp", "/a/,/b/p", ":x;s/a/b/;tx", ":x;bx", "G;H;x", "z", "bx", "p p", "s/a", "1,2!s/b/\\x0a/;p", strings.Repeat("p;", api.MaxTokens+1)}

// P13.2: stray texts, by scripts of many kinds, with all fuels, are as chapter 9 tells them.
func TestSedSecond(t *testing.T) {
	next := row(13)
	counts := map[api.Errno]int{}
	for range 6000 {
		script := scripts[next(len(scripts))]
		in := ""
		for range next(8) {
			in += []string{"a", "b", "\n", " ", "\xff"}[next(5)]
		}
		words, quiet := []string{"sed", script}, next(2) == 0
		if quiet {
			words = []string{"sed", "-n", script}
		}
		fuel := next(60) - 3
		out, left, e := stream.Text(in, script, quiet, fuel)
		want := answer{out, 0, left, api.OK}
		if _, wrong := sed.Read(script); wrong != api.OK {
			want = answer{"", 2, fuel, api.OK}
		} else if e != api.OK {
			want = answer{"", 2, left, e}
		}
		if got := ask(words, in, fuel); got != want {
			t.Fatalf("Run(%.40q, %q, %d): %+v, not %+v", words, in, fuel, got, want)
		}
		counts[e]++
	}
	if counts[api.OK] < 2000 || counts[api.ErrFuel] < 500 || counts[api.ErrSyntax] < 500 {
		t.Errorf("how they ended: %v", counts)
	}
}
