package stream

import (
	"slices"
	"strings"
	"testing"

	"dragoman/api"
	"dragoman/sed"
)

// abc are three lines.
const abc = "a\nb\nc\n"

// ran is what a script puts out over a text, and how much fuel that takes.
type ran struct {
	script, s string
	quiet     bool
	out       string
	takes     int
}

// script is one that is read.
func script(t *testing.T, s string) []api.SedCmd {
	t.Helper()
	l, e := sed.Read(s)
	if e != api.OK {
		t.Fatalf("%q is no script: %d", s, e)
	}
	return l
}

// told are lines, each with its end.
func told(lines []string) string {
	s := ""
	for _, line := range lines {
		s += line + "\n"
	}
	return s
}

// hold holds Text, and Run, against what is said of them, with any fuel up to some more than is taken.
func hold(t *testing.T, rows []ran) {
	t.Helper()
	for _, x := range rows {
		l, lines := script(t, x.script), Lines(x.s)
		for fuel := range x.takes + 3 {
			want := api.OK
			if fuel < x.takes {
				want = api.ErrFuel
			}
			left := max(fuel-x.takes, 0)
			out, rest, e := Text(x.s, x.script, x.quiet, fuel)
			is := out == x.out || want == api.ErrFuel && strings.HasPrefix(x.out, out)
			if !is || rest != left || e != want {
				t.Errorf("Text(%q, %q, %v, %d): %q %d %d, not %q %d %d", x.s, x.script, x.quiet, fuel, out, rest, e, x.out, left, want)
			}
			if put, some, f := Run(l, lines, x.quiet, fuel); told(put) != out || some != rest || f != e {
				t.Errorf("Run(%q, %q, %v, %d): %q %d %d, not as Text", x.script, lines, x.quiet, fuel, put, some, f)
			}
		}
	}
}

// P9.1: the lines of a text.
func TestLines(t *testing.T) {
	for s, want := range map[string][]string{
		"": nil, "\n": {""}, "\n\n": {"", ""}, "a": {"a"}, "a\n": {"a"}, "a\nb": {"a", "b"}, "a\nb\n": {"a", "b"}, "a\n\n": {"a", ""}, "\na": {"", "a"}, "\na\n": {"", "a"}, "a\n\nb": {"a", "", "b"}, "\n\na\n\n": {"", "", "a", ""},
		" ": {" "}, " \n\t": {" ", "\t"}, "a\r\nb\x00\v\f\u0085\u2028\xff\n": {"a\r", "b\x00\v\f\u0085\u2028\xff"}, "a;b\\n": {`a;b\n`},
	} {
		if l := Lines(s); !slices.Equal(l, want) {
			t.Errorf("Lines(%q): %q, not %q", s, l, want)
		}
	}
	if l := Lines(strings.Repeat("ab\n", 100000) + "c"); len(l) != 100001 || l[99999] != "ab" || l[100000] != "c" {
		t.Errorf("Lines of a long text: %d", len(l))
	}
}

// P9.1: each byte but 10 stands in a line.
func TestLinesOfBytes(t *testing.T) {
	for c := range 256 {
		s := string([]byte{'a', byte(c), 'b'})
		want := []string{s}
		if c == '\n' {
			want = []string{"a", "b"}
		}
		if l := Lines(s); !slices.Equal(l, want) {
			t.Errorf("Lines(%q): %q", s, l)
		}
	}
}

// P9.1: no commands; no lines.
func TestNothing(t *testing.T) {
	hold(t, []ran{
		{"", "", false, "", 0}, {"", "", true, "", 0}, {"p", "", false, "", 0}, {"p;n;q;G", "", true, "", 0},
		{"", abc, false, abc, 3}, {"", abc, true, "", 3}, {"", "a", false, "a\n", 1}, {"", "\n", false, "\n", 1}, {"", "\n", true, "", 1}, {"", "a\n\n", false, "a\n\n", 2}, {" ;\n", abc, false, abc, 3},
	})
	if out, left, e := Run(nil, nil, false, 7); len(out) != 0 || left != 7 || e != api.OK {
		t.Errorf("Run of nothing: %q %d %d", out, left, e)
	}
	if out, left, e := Run(nil, []string{"", "a\nb"}, false, 7); !slices.Equal(out, []string{"", "a\nb"}) || left != 5 || e != api.OK {
		t.Errorf("Run of no commands: %q %d %d", out, left, e)
	}
}

// P9.1: p.
func TestPrint(t *testing.T) {
	hold(t, []ran{
		{"p", abc, false, "a\na\nb\nb\nc\nc\n", 6}, {"p", abc, true, abc, 6}, {"p;p", "a", true, "a\na\n", 3}, {"p", "\n", false, "\n\n", 2}, {"s/a/b/;p;s/b/c/", "a\n", false, "b\nc\n", 4},
		{"!p", abc, true, "", 6}, {"!p", abc, false, abc, 6}, {"2p", abc, true, "b\n", 6}, {"2!p", abc, true, "a\nc\n", 6}, {"1,2p", abc, true, "a\nb\n", 6}, {"1,2!p", abc, true, "c\n", 6},
	})
}

// P9.1: d.
func TestDrop(t *testing.T) {
	hold(t, []ran{
		{"d", abc, false, "", 6}, {"d", abc, true, "", 6}, {"d;p", abc, false, "", 6}, {"p;d;p", abc, false, abc, 9}, {"p;d;p", abc, true, abc, 9}, {"2d;p", abc, true, "a\nc\n", 8},
		{"!d", abc, false, abc, 6}, {"2d", abc, false, "a\nc\n", 6}, {"2!d", abc, false, "b\n", 6}, {"1,2d", abc, false, "c\n", 6}, {"1,2!d", abc, false, "a\nb\n", 6}, {"$d", abc, false, "a\nb\n", 6},
		// The hold space stays, and the next cycle goes on with it.
		{"1h;1d;G", "a\nb\n", false, "b\na\n", 7},
	})
}

// P9.1: q.
func TestQuit(t *testing.T) {
	hold(t, []ran{
		{"q", abc, false, "a\n", 2}, {"q", abc, true, "", 2}, {"p;q;p", abc, false, "a\na\n", 3}, {"p;q;p", abc, true, "a\n", 3}, {"s/a/x/;q", abc, false, "x\n", 3},
		{"!q", abc, false, abc, 6}, {"2q", abc, false, "a\nb\n", 4}, {"2q", abc, true, "", 4}, {"1!q", abc, false, "a\nb\n", 4}, {"2,3q", abc, false, "a\nb\n", 4}, {"1,2!q", "a\nb\nc\nd\n", false, abc, 6}, {"$q", abc, false, abc, 6}, {"9q", abc, false, abc, 6},
	})
}

// P9.1: n.
func TestNext(t *testing.T) {
	hold(t, []ran{
		{"n", abc, false, abc, 4}, {"n", abc, true, "", 4}, {"n", "a\nb\n", false, "a\nb\n", 2}, {"n", "a", false, "a\n", 2}, {"n", "a", true, "", 2},
		{"n;p", abc, true, "b\n", 5}, {"n;p", abc, false, "a\nb\nb\nc\n", 5}, {"n;d", abc, false, "a\nc\n", 5}, {"n;n;p", abc, true, "c\n", 4}, {"n;n;p", abc, false, "a\nb\nc\nc\n", 4}, {"s/./x/;n", "a\nb\n", false, "x\nb\n", 3},
		// Its number is one more.
		{"n;1p", abc, true, "", 5}, {"n;2p", abc, true, "b\n", 5}, {"n;3p", abc, true, "", 5}, {"n;n;3p", abc, true, "c\n", 4},
		{"!n", abc, false, abc, 6}, {"!n;p", abc, true, abc, 9}, {"2n;p", abc, true, "a\nc\n", 6}, {"2!n;p", abc, true, "b\n", 5}, {"$n;p", abc, true, "a\nb\n", 8}, {"$!n;p", abc, true, "b\nc\n", 6}, {"2,3n;p", abc, true, "a\nc\n", 6}, {"2,3!n;p", abc, true, "b\n", 5},
		// The hold space stays, and what n takes begins no cycle: it doesn't come to the commands ahead.
		{"h;n;G", "a\nb\n", false, "a\nb\na\n", 4}, {"p;n", abc, true, "a\nc\n", 6},
	})
}

// P9.1: h, H, g, G, x.
func TestSpaces(t *testing.T) {
	hold(t, []ran{
		// A hold space without bytes.
		{"g", "a\nb\n", false, "\n\n", 4}, {"G", "a\nb\n", false, "a\n\nb\n\n", 4}, {"x", abc, false, "\na\nb\n", 6}, {"H;g", "a\n", false, "\na\n", 3}, {"H;G", "a\n", false, "a\n\na\n", 3}, {"h;g", abc, false, abc, 9}, {"h;G", "a\n", false, "a\na\n", 3}, {"h", abc, false, abc, 6}, {"H", abc, false, abc, 6},
		// One with some.
		{"1h;g", abc, false, "a\na\na\n", 9}, {"1h;2h;3g", abc, false, "a\nb\nb\n", 12}, {"1h;G", "a\nb\n", false, "a\na\nb\na\n", 6}, {"h;H;g", "a\n", false, "a\na\n", 4}, {"H;$!d;g", abc, false, "\na\nb\nc\n", 10}, {"1h;x", "a\nb\n", false, "a\na\n", 6}, {"h;s/a/b/;x", "a\n", false, "a\n", 4}, {"h;s/a/b/;x;x", "a\n", false, "b\n", 5}, {"h;s/a/b/;x;G", "a\n", false, "a\nb\n", 5}, {"h;s/a/b/;H;x", "a\n", false, "a\nb\n", 5},
		{"x;x", abc, false, abc, 9}, {"x;p;x", abc, true, "\n\n\n", 12}, {"x;p;x;h", abc, true, "\na\nb\n", 15}, {"1!G;h;$!d", abc, false, "c\nb\na\n", 12}, {"H;$!d;x;s/\\x0a/,/g", abc, false, ",a,b,c\n", 11},
		// A space without bytes, in the one and the other.
		{"h;G", "\n", false, "\n\n", 3}, {"H;x", "\n", false, "\n\n", 3},
		// Addresses.
		{"!h;g", "a\n", false, "\n", 3}, {"2h;g", abc, false, "\nb\nb\n", 9}, {"2!h;g", abc, false, "a\na\nc\n", 9}, {"1,2h;g", abc, false, "a\nb\nb\n", 9}, {"1,2!h;g", abc, false, "\n\nc\n", 9},
		{"!H;g", "a\n", false, "\n", 3}, {"2H;$!d;g", abc, false, "\nb\n", 10}, {"2!H;$!d;g", abc, false, "\na\nc\n", 10}, {"1,2H;$!d;g", abc, false, "\na\nb\n", 10}, {"1,2!H;$!d;g", abc, false, "\nc\n", 10},
		{"!g", abc, false, abc, 6}, {"2g", abc, false, "a\n\nc\n", 6}, {"2!g", abc, false, "\nb\n\n", 6}, {"1,2g", abc, false, "\n\nc\n", 6}, {"1,2!g", abc, false, "a\nb\n\n", 6},
		{"!G", abc, false, abc, 6}, {"2G", abc, false, "a\nb\n\nc\n", 6}, {"2!G", abc, false, "a\n\nb\nc\n\n", 6}, {"1,2G", abc, false, "a\n\nb\n\nc\n", 6}, {"1,2!G", abc, false, "a\nb\nc\n\n", 6},
		{"!x", abc, false, abc, 6}, {"2x", abc, false, "a\n\nc\n", 6}, {"2!x", abc, false, "\nb\na\n", 6}, {"1,2x", abc, false, "\na\nc\n", 6}, {"1,2!x", abc, false, "a\nb\n\n", 6},
	})
}

// P9.1: s.
func TestSubstitute(t *testing.T) {
	hold(t, []ran{
		// Each row of flags.
		{"s/a/x/", "banana\n", false, "bxnana\n", 2}, {"s/a/x/", "banana\n", true, "", 2}, {"s/a/x/g", "banana\n", false, "bxnxnx\n", 2}, {"s/a/x/g", "banana\n", true, "", 2}, {"s/a/x/p", "banana\n", true, "bxnana\n", 2}, {"s/a/x/p", "banana\n", false, "bxnana\nbxnana\n", 2}, {"s/a/x/gp", "banana\n", true, "bxnxnx\n", 2}, {"s/a/x/pg", "banana\n", false, "bxnxnx\nbxnxnx\n", 2},
		// Nothing is replaced.
		{"s/z/x/", "banana\n", false, "banana\n", 2}, {"s/z/x/g", "banana\n", false, "banana\n", 2}, {"s/z/x/p", "banana\n", true, "", 2}, {"s/z/x/gp", "banana\n", true, "", 2}, {"s/z/x/gp", "banana\n", false, "banana\n", 2},
		// Something is replaced by itself.
		{"s/a/a/p", "banana\n", true, "banana\n", 2}, {"s/a/&/gp", "banana\n", true, "banana\n", 2}, {"s/()//p", "banana\n", true, "banana\n", 2}, {"s/a/a/;t;d", "a\nb\n", false, "a\n", 7},
		// What is written.
		{"s/a/[&]/g", "banana\n", false, "b[a]n[a]n[a]\n", 2}, {"s/x*/-/g", "abxc\n", false, "-a-b-c-\n", 2}, {"s/x*/-/", "abxc\n", false, "-abxc\n", 2}, {"s/a|ab/<&>/", "xabab\n", false, "x<ab>ab\n", 2}, {"s/a//g", "banana\n", false, "bnn\n", 2}, {"s/^/> /;s/$/!/", "a\n\n", false, "> a!\n> !\n", 6}, {"s/^a/x/g", "aaa\n", false, "xaa\n", 2}, {"s/.*/\\x0a/", "a\n", false, "\n\n", 2},
		// It is the pattern space in which it is looked for.
		{"s/a/b/;s/b/c/;s/a/d/", "a\n", false, "c\n", 4}, {"G;s/.\\x0a/x/", "ab\n", false, "ax\n", 3}, {"G;s/./x/g", "a\n", false, "x\n\n", 3},
		// Addresses.
		{"!s/./x/", abc, false, abc, 6}, {"2s/./x/", abc, false, "a\nx\nc\n", 6}, {"2!s/./x/", abc, false, "x\nb\nx\n", 6}, {"1,2s/./x/", abc, false, "x\nx\nc\n", 6}, {"1,2!s/./x/", abc, false, "a\nb\nx\n", 6}, {"/b/s/./x/p", abc, true, "x\n", 6},
	})
}

// P9.1: b, and what does nothing.
func TestBranch(t *testing.T) {
	hold(t, []ran{
		{"b;d", abc, false, abc, 6}, {"b;p", abc, true, "", 6}, {"bx;d;:x;p", "a\n", true, "a\n", 4}, {":x", abc, false, abc, 6}, {":x;:y;p;:z", "a\n", true, "a\n", 5}, {"by;:x;p;b;:y;bx", "a\n", true, "a\n", 7}, {":x;p;n;bx", abc, true, abc, 12}, {"bx;p;:x", "a\n", false, "a\n", 3}, {"b p;d;:p", "a\n", false, "a\n", 3},
		{"!b;d", abc, false, "", 9}, {"2b;d", abc, false, "b\n", 8}, {"2!b;d", abc, false, "a\nc\n", 7}, {"1,2b;d", abc, false, "a\nb\n", 7}, {"1,2!b;d", abc, false, "c\n", 8}, {"2bx;d;:x", abc, false, "b\n", 9}, {"2!bx;d;:x", abc, false, "a\nc\n", 9},
	})
}

// P9.1: t.
func TestBranchIfChanged(t *testing.T) {
	hold(t, []ran{
		{"t;d", "a\n", false, "", 3}, {"tx;d;:x", "a\n", false, "", 3},
		// In this cycle.
		{"s/a/x/;t;s/./y/", "a\nb\n", false, "x\ny\n", 7}, {"s/a/x/;tx;s/./y/;:x;p", "a\nb\n", true, "x\ny\n", 11}, {"s/a/x/;s/q/r/;t;d", "a\n", false, "x\n", 4}, {":x;s/a/c/;tx", "aab\n", false, "ccb\n", 10}, {"s/a/x/g;t;d", "aa\nb\n", false, "xx\n", 7}, {"s/a/x/p;t;d", "a\n", true, "x\n", 3},
		// In the cycle ahead.
		{"1s/a/x/;2t;s/./y/", "a\nb\n", false, "y\ny\n", 8}, {"t;s/./y/", "a\nb\n", false, "y\ny\n", 6}, {"2t;s/./y/;d", "a\nb\n", false, "", 8},
		// Ahead of the last t that went on.
		{"s/a/x/;tx;:x;ty;s/./z/;:y", "a\n", false, "z\n", 7}, {"s/a/x/;tx;:x;s/x/w/;ty;s/./z/;:y", "a\n", false, "w\n", 7},
		// Of a t that wasn't meant, or none at all.
		{"s/a/x/;2tx;:x;ty;s/./z/;:y", "a\n", false, "x\n", 6}, {"s/a/x/;bx;:x;ty;s/./z/;:y", "a\n", false, "x\n", 6},
		// What n takes begins no cycle.
		{"s/a/x/;n;t;d", "a\nb\n", false, "x\nb\n", 4}, {"n;t;s/./y/", "a\nb\n", false, "a\ny\n", 4},
		{"s/./x/;!t;d", "a\n", false, "", 4}, {"s/./x/;2t;d", abc, false, "x\n", 11}, {"s/./x/;2!t;d", abc, false, "x\nx\n", 10}, {"s/./x/;1,2t;d", abc, false, "x\nx\n", 10}, {"s/./x/;1,2!t;d", abc, false, "x\n", 11},
	})
}

// P9.2: a script that is wrong.
func TestWrong(t *testing.T) {
	for wrong, e := range map[string]api.Errno{
		"z": api.ErrSyntax, "p;z": api.ErrSyntax, "s/a/b": api.ErrSyntax, "1,p": api.ErrSyntax, "bx": api.ErrName, "p;:x;:x": api.ErrName, "/" + strings.Repeat("(", 31) + "/p": api.ErrDeep, strings.Repeat("p;", 2001): api.ErrBig, strings.Repeat("\n", api.MaxSource+1): api.ErrBig,
	} {
		for _, fuel := range []int{0, 1, 100, -1} {
			for _, s := range []string{"", abc} {
				if out, left, got := Text(s, wrong, false, fuel); out != "" || left != fuel || got != e {
					t.Errorf("Text(%q, %.40q, %d): %q %d %d, not %d", s, wrong, fuel, out, left, got, e)
				}
			}
		}
	}
}

// P9.2: each that is put out has byte 10 behind it, whatever it is.
func TestTextOut(t *testing.T) {
	hold(t, []ran{
		{"", "a", false, "a\n", 1}, {"", "\x00\xff\n \n\r", false, "\x00\xff\n \n\r\n", 3}, {"G;G", "a", false, "a\n\n\n", 3}, {"s/.*//", abc, false, "\n\n\n", 6}, {"1d", "a", false, "", 2},
	})
	var s strings.Builder
	for c := range 256 {
		s.WriteString("a" + string([]byte{byte(c)}) + "b\n")
	}
	if out, left, e := Text(s.String(), "n", false, 1000); out != s.String() || left != 742 || e != api.OK {
		t.Errorf("Text of all bytes: %d bytes, %d %d", len(out), left, e)
	}
}

// The document's examples.
func TestExamples(t *testing.T) {
	if out, left, e := Text("a\nb\n", "1d", false, 100); out != "b\n" || left != 96 || e != api.OK {
		t.Errorf("a and b by 1d: %q %d %d", out, left, e)
	}
}
