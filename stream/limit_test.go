package stream

import (
	"math"
	"slices"
	"strings"
	"testing"

	"dragoman/api"
	"dragoman/regex"
)

// P9.1: each cycle that begins, and each command that is come to, takes one: what was put out so far.
func TestFuel(t *testing.T) {
	for _, x := range []struct {
		script string
		quiet  bool
		// outs are what is put out with 0, 1, 2 .. of fuel; the last one takes just as much as there is.
		outs []string
	}{
		{"", false, []string{"", "a", "ab"}}, {"", true, []string{"", "", ""}},
		{"p", true, []string{"", "", "a", "a", "ab"}}, {"p", false, []string{"", "", "aa", "aa", "aabb"}}, {"p;p", true, []string{"", "", "a", "aa", "aa", "aab", "aabb"}},
		// Meant or not.
		{"!p", true, []string{"", "", "", "", ""}}, {"2p;p", true, []string{"", "", "", "a", "a", "ab", "abb"}}, {"9p;9,10p", false, []string{"", "", "", "a", "a", "a", "ab"}},
		{"d", false, []string{"", "", "", "", ""}}, {"p;d;p", false, []string{"", "", "a", "a", "a", "ab", "ab"}},
		{"q", false, []string{"", "", "a"}}, {"p;q", true, []string{"", "", "a", "a"}},
		// What n takes is no cycle: it takes none.
		{"n", false, []string{"", "", "ab"}}, {"n;p", true, []string{"", "", "", "b"}}, {"n;p;n;p", false, []string{"", "", "a", "ab", "abb"}},
		{":x", false, []string{"", "", "a", "a", "ab"}}, {":x;p;:y;p", true, []string{"", "", "", "a", "a", "aa", "aa", "aa", "aab", "aab", "aabb"}},
		// By b and t to a label, which is come to; and to the end, which isn't.
		{"b;p", false, []string{"", "", "a", "a", "ab"}}, {"bx;p;:x", false, []string{"", "", "", "a", "a", "a", "ab"}}, {"s/b/a/;t;p", true, []string{"", "", "", "", "a", "a", "a", "a"}}, {":x;s/a/b/p;tx", true, []string{"", "", "", "b", "b", "b", "b", "b", "b", "b", "b", "b"}},
		{"h;x;g;s/a/a/", false, []string{"", "", "", "", "", "a", "a", "a", "a", "a", "ab"}},
	} {
		for fuel, want := range x.outs {
			e := api.ErrFuel
			if fuel == len(x.outs)-1 {
				e = api.OK
			}
			out, left, got := Run(script(t, x.script), []string{"a", "b"}, x.quiet, fuel)
			if strings.Join(out, "") != want || left != 0 || got != e {
				t.Errorf("Run(%q, %v, %d): %q %d %d, not %q 0 %d", x.script, x.quiet, fuel, out, left, got, want, e)
			}
		}
	}
}

// P9.1: fuel below 0 counts as 0; much of it is told as it is.
func TestFuelEnds(t *testing.T) {
	p := script(t, "p")
	for _, fuel := range []int{0, -1, -2, math.MinInt} {
		if out, left, e := Run(p, []string{"a"}, false, fuel); len(out) != 0 || left != 0 || e != api.ErrFuel {
			t.Errorf("Run with %d: %q %d %d", fuel, out, left, e)
		}
		if out, left, e := Run(nil, []string{"a"}, false, fuel); len(out) != 0 || left != 0 || e != api.ErrFuel {
			t.Errorf("Run of no commands with %d: %q %d %d", fuel, out, left, e)
		}
		if out, left, e := Run(p, nil, false, fuel); len(out) != 0 || left != 0 || e != api.OK {
			t.Errorf("Run of no lines with %d: %q %d %d", fuel, out, left, e)
		}
		if out, left, e := Text("a", "p", false, fuel); out != "" || left != 0 || e != api.ErrFuel {
			t.Errorf("Text with %d: %q %d %d", fuel, out, left, e)
		}
		if out, left, e := Text("", "p", false, fuel); out != "" || left != 0 || e != api.OK {
			t.Errorf("Text of nothing with %d: %q %d %d", fuel, out, left, e)
		}
	}
	if out, left, e := Run(p, []string{"a"}, true, math.MaxInt); len(out) != 1 || left != math.MaxInt-2 || e != api.OK {
		t.Errorf("Run with much: %q %d %d", out, left, e)
	}
}

// P9.1: what never ends takes all.
func TestNoEnd(t *testing.T) {
	for _, s := range []string{":x;bx", "s/a/&/;:x;s/a/&/;tx", ":x;G;s/\\x0a//;bx", ":x;1,1!p;h;bx", ":x;x;/a/bx;bx"} {
		if out, left, e := Text("a\nb\n", s, false, 100000); out != "" || left != 0 || e != api.ErrFuel {
			t.Errorf("%s: %.40q %d %d", s, out, left, e)
		}
	}
	if out, left, e := Text("a", ":x;p;bx", true, 300); out != strings.Repeat("a\n", 100) || left != 0 || e != api.ErrFuel {
		t.Errorf("p without end: %d bytes %d %d", len(out), left, e)
	}
}

// most is as long a space as may be made.
var most = strings.Repeat("a", api.MaxShell)

// P9.1: as long as may be, and one more.
func TestBig(t *testing.T) {
	long, half := most+"a", most[:api.MaxShell/2]
	for i, x := range []struct {
		script string
		line   string
		// out is the last line that is put out, by p ahead and p at the end; none, if it is too long.
		out  string
		e    api.Errno
		left int
	}{
		{"G", most[1:], most[1:] + "\n", api.OK, 97}, {"G", most, "", api.ErrBig, 97}, {"G", long, "", api.ErrBig, 97}, {"h;G", half[1:], half[1:] + "\n" + half[1:], api.OK, 96}, {"h;G", half, "", api.ErrBig, 96}, {"h;s/a*//;G", most[1:], "\n" + most[1:], api.OK, 95}, {"h;s/a*//;G", most, "", api.ErrBig, 95},
		{"H;g", most[1:], "\n" + most[1:], api.OK, 96}, {"H;g", most, "", api.ErrBig, 97}, {"H", long, "", api.ErrBig, 97}, {"h;H;g", half[1:], half[1:] + "\n" + half[1:], api.OK, 95}, {"h;H", half, "", api.ErrBig, 96}, {"h;s/a*//;H;g", most[1:], most[1:] + "\n", api.OK, 94}, {"h;s/a*//;H", most, "", api.ErrBig, 95},
		{"s/a/bb/", most[1:], "bb" + most[2:], api.OK, 97}, {"s/a/bb/", most, "", api.ErrBig, 97}, {"s/a/b/", most, "b" + most[1:], api.OK, 97}, {"s/a/b/", long, "", api.ErrBig, 97}, {"s/a//", long, most, api.OK, 97}, {"s/a/&/", most, most, api.OK, 97}, {"s/a/&/", long, "", api.ErrBig, 97}, {"s/a*/&&/", half, most, api.OK, 97}, {"s/a*/&&/", half + "a", "", api.ErrBig, 97}, {"s/a*/&&b/", half, "", api.ErrBig, 97}, {"s/^/b/", most[1:], "b" + most[1:], api.OK, 97}, {"s/$/b/", most, "", api.ErrBig, 97},
		{"s/a/bb/g", half, strings.Repeat("bb", api.MaxShell/2), api.OK, 97}, {"s/a/bb/g", half + "a", "", api.ErrBig, 97}, {"s/a/&&/g", half, most, api.OK, 97}, {"s/a/&&/g", half + "a", "", api.ErrBig, 97}, {"s/a/b/g", long, "", api.ErrBig, 97}, {"s/a//g", long, "", api.OK, 97}, {"s/aa/a/g", long, half + "a", api.OK, 97}, {"s/b*/c/g", half[1:], strings.Repeat("ca", api.MaxShell/2-1) + "c", api.OK, 97}, {"s/b*/c/g", half, "", api.ErrBig, 97}, {"s/b*/&&/g", most, most, api.OK, 97},
		// A line that is longer, and is let be.
		{"s/b/c/", long, long, api.OK, 97}, {"s/b/c/g", long, long, api.OK, 97}, {"s/b/&&&&/gp", long, long, api.OK, 97}, {"s/^b*c//", long, long, api.OK, 97}, {"h;x;g", long, long, api.OK, 95}, {"x;p;x", long, long, api.OK, 95}, {"/b/d;2,3q;bx;:x", long, long, api.OK, 94}, {"!G;!H;!s/a/aa/", long, long, api.OK, 95},
	} {
		out, left, e := Run(script(t, "p;"+x.script+";p"), []string{x.line}, true, 100)
		want := x.left - 1
		if e != api.OK {
			want = x.left
		}
		if left != want || e != x.e || out[0] != x.line {
			t.Errorf("%d: %s of %d bytes: %d %d, not %d %d", i, x.script, len(x.line), left, e, want, x.e)
		}
		if ended := len(out) > 1; ended != (x.e == api.OK) || ended && out[len(out)-1] != x.out {
			t.Errorf("%d: %s of %d bytes: %d lines put out, the last one of %d bytes, not %d", i, x.script, len(x.line), len(out), len(out[len(out)-1]), len(x.out))
		}
	}
}

// P9.1: what was put out so far, of more than a line; and ErrFuel goes ahead, where none is left for the command.
func TestBigSoFar(t *testing.T) {
	lines := []string{"b", "c", most, "d"}
	l := script(t, "/a/s/$/a/;s/c/e/p")
	out, left, e := Run(l, lines, false, 50)
	if !slices.Equal(out, []string{"b", "e", "e"}) || left != 42 || e != api.ErrBig {
		t.Errorf("Run: %.40q %d %d", out, left, e)
	}
	if out, left, e := Run(l, lines, false, 8); !slices.Equal(out, []string{"b", "e", "e"}) || left != 0 || e != api.ErrBig {
		t.Errorf("Run with just as much: %.40q %d %d", out, left, e)
	}
	if out, left, e := Run(l, lines, false, 7); !slices.Equal(out, []string{"b", "e", "e"}) || left != 0 || e != api.ErrFuel {
		t.Errorf("Run with one less: %.40q %d %d", out, left, e)
	}
	text := told(lines)
	if out, left, e := Text(text, "/a/s/$/a/;s/c/e/p", false, 50); out != "b\ne\ne\n" || left != 42 || e != api.ErrBig {
		t.Errorf("Text: %.40q %d %d", out, left, e)
	}
	// What grows by itself.
	if out, left, e := Text("a\n", ":x;s/a/aa/g;bx", false, 1000); out != "" || left != 1000-1-3*16-2 || e != api.ErrBig {
		t.Errorf("doubled: %.40q %d %d", out, left, e)
	}
	if out, left, e := Text("\n", ":x;G;h;bx", false, 1000); out != "" || left != 1000-1-4*16-2 || e != api.ErrBig {
		t.Errorf("G and h: %.40q %d %d", out, left, e)
	}
}

// P9.1: what would be far too long isn't made, be it more than any memory holds.
func TestFarTooBig(t *testing.T) {
	ands := strings.Repeat("&", 8000)
	for _, s := range []string{"s/a*/" + ands + "/", "s/a/" + ands + "/g", "s/()/" + strings.Repeat("b", 8000) + "/g", "s/a*/" + ands + "/gp"} {
		if out, left, e := Text(most, s, false, 10); out != "" || left != 8 || e != api.ErrBig {
			t.Errorf("%.20s: %d bytes %d %d", s, len(out), left, e)
		}
	}
	re, _ := regex.Read(".*")
	l := []api.SedCmd{{Op: 's', Re: re, By: make([]string, 4000001)}}
	if out, left, e := Run(l, []string{strings.Repeat("x", 4000000)}, false, 10); len(out) != 0 || left != 8 || e != api.ErrBig {
		t.Errorf("a long line, and many places: %d lines %d %d", len(out), left, e)
	}
	if out, left, e := Run(l, []string{""}, false, 10); !slices.Equal(out, []string{""}) || left != 8 || e != api.OK {
		t.Errorf("no byte at many places: %d lines %d %d", len(out), left, e)
	}
}

// P9.1: many commands, many labels that are gone to many times, and many lines.
func TestLong(t *testing.T) {
	const labels = 666
	var s strings.Builder
	for i := range labels {
		name := string([]byte{'A' + byte(i/26), 'A' + byte(i%26)})
		s.WriteString("b" + name + "\nd\n:" + name + "\n")
	}
	in := strings.Repeat("a\n", 100)
	if out, left, e := Text(in, s.String()+"p", true, 1000000); out != in || left != 1000000-100*(1+2*labels+1) || e != api.OK {
		t.Errorf("many labels: %d bytes %d %d", len(out), left, e)
	}
	if out, left, e := Text(strings.Repeat("a\n", 99999)+"b", "$!d", false, 1000000); out != "b\n" || left != 800000 || e != api.OK {
		t.Errorf("many lines: %d bytes %d %d", len(out), left, e)
	}
}

// Rule 4: scripts that aren't right, of which the chapter says nothing, neither panic nor go on for ever.
func TestNotRight(t *testing.T) {
	tree, _ := regex.Read("a")
	for _, c := range []api.SedCmd{
		{}, {Op: 'z'}, {Op: 255}, {Op: 'b', Label: "x"}, {Op: 't', Label: "x"}, {Op: 's'}, {Op: 's', Re: tree}, {Op: 's', Re: tree, All: true}, {Op: 's', Re: []api.Re{{Kind: api.RCat, Kids: [2]int{7, -7}}}, By: []string{"b"}}, {Op: 'p', A: api.Addr{Kind: 9}}, {Op: 'p', A: api.Addr{Kind: api.ARe}}, {Op: 'p', A: api.Addr{Kind: api.ALine, N: -1}, B: api.Addr{Kind: -1}}, {Op: 'p', B: api.Addr{Kind: api.ALast}}, {Op: ':', A: api.Addr{Kind: api.ALast}, Not: true},
	} {
		for _, line := range []string{"a", most + "a"} {
			if _, _, e := Run([]api.SedCmd{{Op: 's', Re: tree, By: []string{"a"}, A: api.Addr{Kind: api.ALine, N: 2}}, c, {Op: 'b'}}, []string{line, "a"}, false, 100); e != api.OK {
				t.Errorf("%v: %d", c, e)
			}
		}
	}
}
