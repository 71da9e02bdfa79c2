package stream

import "testing"

// P9.1: no address, and one.
func TestOneAddress(t *testing.T) {
	hold(t, []ran{
		// A line's number: the first one, the last one, one more than there are.
		{"1p", abc, true, "a\n", 6}, {"3p", abc, true, "c\n", 6}, {"4p", abc, true, "", 6}, {"1000000000p", abc, true, "", 6}, {"1!p", abc, true, "b\nc\n", 6}, {"3!p", abc, true, "a\nb\n", 6}, {"4!p", abc, true, abc, 6}, {"1p;2p;1p", "a\nb\n", true, "a\na\nb\n", 8},
		// The last line.
		{"$p", "a\n", true, "a\n", 2}, {"$!p", "a\n", true, "", 2}, {"$p", abc, true, "c\n", 6}, {"$!p", abc, true, "a\nb\n", 6}, {"n;$p", "a\nb\n", true, "b\n", 3}, {"n;$!p", "a\nb\n", true, "", 3}, {"$p;n", "a\nb\n", true, "", 3}, {"n;$p", abc, true, "", 5}, {"n;n;$p", abc, true, "c\n", 4}, {"$p", "a\n\n", true, "\n", 4},
		// An expression.
		{"/b/p", abc, true, "b\n", 6}, {"/b/!p", abc, true, "a\nc\n", 6}, {"/z/p", abc, true, "", 6}, {"/z/!p", abc, true, abc, 6}, {"/a|c/p", abc, true, "a\nc\n", 6}, {"/^$/p", "a\n\nb\n", true, "\n", 6}, {"/()/p", abc, true, abc, 6}, {"/b/p", "abc\n", true, "abc\n", 2}, {"/^b/p", "abc\nbc\n", true, "bc\n", 4}, {"/[^a]/p", "a\nb\n", true, "b\n", 4},
		// It is the pattern space in which it stands, or not.
		{"s/a/x/;/a/p;/x/p", "a\n", true, "x\n", 4}, {"/b/d;n;/b/p", "a\nb\n", true, "b\n", 4}, {"x;/b/p", abc, true, "b\n", 9}, {"G;/\\x0a/p", "a\n", true, "a\n\n", 3}, {"/a/s/a/b/;/b/s/b/c/", "a\n", false, "c\n", 3},
	})
}

// P9.1: two addresses, each command come to once in each line.
func TestTwoAddresses(t *testing.T) {
	abcd := abc + "d\n"
	again := "a\nx\na\ny\na\nz\n"
	hold(t, []ran{
		// From a line's number to another one.
		{"1,2p", abcd, true, "a\nb\n", 8}, {"2,3p", abcd, true, "b\nc\n", 8}, {"2,3!p", abcd, true, "a\nd\n", 8}, {"2,4p", abcd, true, "b\nc\nd\n", 8}, {"2,9p", abcd, true, "b\nc\nd\n", 8}, {"1,4!p", abcd, true, "", 8}, {"5,9p", abcd, true, "", 8},
		// One that isn't above the line's own: off at once.
		{"2,2p", abcd, true, "b\n", 8}, {"2,1p", abcd, true, "b\n", 8}, {"4,1p", abcd, true, "d\n", 8}, {"3,1!p", abcd, true, "a\nb\nd\n", 8}, {"/b/,1p", abcd, true, "b\n", 8}, {"/b/,2p", abcd, true, "b\n", 8}, {"/b/,3p", abcd, true, "b\nc\n", 8}, {"/a/,2p", "a\nb\nc\na\nd\n", true, "a\nb\na\n", 10}, {"/a/,3p", "a\na\na\na\nb\n", true, "a\na\na\na\n", 10},
		// The last line.
		{"2,$p", abcd, true, "b\nc\nd\n", 8}, {"2,$!p", abcd, true, "a\n", 8}, {"$,1p", abcd, true, "d\n", 8}, {"$,$p", abcd, true, "d\n", 8}, {"$,/a/p", abcd, true, "d\n", 8}, {"$,9p", abcd, true, "d\n", 8}, {"1,$p", "a\n", true, "a\n", 2}, {"/c/,$p", abcd, true, "c\nd\n", 8},
		// Expressions.
		{"/b/,/c/p", abcd, true, "b\nc\n", 8}, {"/b/,/c/!p", abcd, true, "a\nd\n", 8}, {"2,/c/p", abcd, true, "b\nc\n", 8}, {"/z/,/c/p", abcd, true, "", 8}, {"/b/,/b/p", abcd, true, "b\nc\nd\n", 8},
		// B is not asked where it comes on, but where it is a line's number.
		{"/a/,/a/p", again, true, "a\nx\na\na\nz\n", 12}, {"/a/,/a/!p", again, true, "y\n", 12}, {"1,/a/p", again, true, "a\nx\na\n", 12},
		// B that never comes; B that came ahead.
		{"/b/,/z/p", abcd, true, "b\nc\nd\n", 8}, {"/c/,/a/p", abcd, true, "c\nd\n", 8}, {"2,/a/p", abcd, true, "b\nc\nd\n", 8},
		// A that comes again where it is on, where it is off, and in the line in which it goes off.
		{"/a/,/b/p", "a\na\nb\nc\na\nd\n", true, "a\na\nb\na\nd\n", 12}, {"/a/,/b/p", "a\nab\nb\nc\n", true, "a\nab\n", 8}, {"/a/,/b/p", "a\nab\na\nc\nb\nd\n", true, "a\nab\na\nc\nb\n", 12}, {"/a/,/b/p", "ab\nc\nab\nc\n", true, "ab\nc\nab\n", 8},
		// Each command has its own.
		{"1,2p;2,3p", abcd, true, "a\nb\nb\nc\n", 12}, {"/a/,/b/p;/a/,/c/p", abcd, true, "a\na\nb\nb\nc\n", 12},
		// What it does itself is seen by no address of its own until it is asked again.
		{"/a/,/b/s/./x/", "a\nb\nc\n", false, "x\nx\nc\n", 6}, {"1,/b/s/a/b/", "a\na\na\n", false, "b\nb\nb\n", 6},
	})
}

// P9.1: two addresses, and lines in which the command isn't come to.
func TestNotComeTo(t *testing.T) {
	five := abc + "d\ne\n"
	hold(t, []ran{
		// It is on still, and meant once more, though B's number is below the line's.
		{"2,3b;1,2p", five, true, "a\nd\n", 13}, {"2,3b;1,2!p", five, true, "e\n", 13}, {"1,2p;n", "a\nb\nc\nd\n", true, "a\nc\n", 6}, {"1,2p;n", five + "f\n", true, "a\nc\n", 9},
		// B came where it wasn't come to.
		{"3b;2,/c/p", five, true, "b\nd\ne\n", 14}, {"$b;2,$p", five, true, "b\nc\nd\n", 14},
		// A came where it wasn't come to.
		{"1b;1,3p", five, true, "", 14}, {"/b/b;/b/,/d/p", five, true, "", 14}, {"n;1,2p", five, true, "", 8}, {"n;2,3p", five, true, "b\nd\n", 8},
		{"2d;1,2p", five, true, "a\nc\n", 14},
	})
}

// P9.1: two addresses, and a command that is come to twice in each line (s does something, t goes back once).
func TestComeToMore(t *testing.T) {
	twice := func(command string) string { return "s/^/-/;:x;" + command + ";tx" }
	hold(t, []ran{
		// On, and asked for B in the same line.
		{twice("/a/,/b/p"), "ab\nc\n", true, "-ab\n-ab\n", 16}, {twice("/a/,/b/!p"), "ab\nc\n", true, "-c\n-c\n", 16}, {twice("/a/,/b/p"), "ab\nab\n", true, "-ab\n-ab\n-ab\n-ab\n", 16}, {twice("/a/,/b/p"), "a\nb\nc\n", true, "-a\n-a\n-b\n", 24}, {twice("/a/,/a/p"), "a\nb\na\n", true, "-a\n-a\n-a\n-a\n", 24},
		// Off, and asked for A in the same line.
		{twice("/a/,/b/p"), "a\nab\nc\n", true, "-a\n-a\n-ab\n-ab\n-c\n-c\n", 24}, {twice("1,1p"), "a\nb\n", true, "-a\n-a\n", 16}, {twice("2,1p"), "a\nb\nc\n", true, "-b\n-b\n", 24}, {twice("/b/,2p"), "a\nb\nb\n", true, "-b\n-b\n-b\n-b\n", 24}, {twice("1,2p"), "a\nb\nc\n", true, "-a\n-a\n-b\n", 24}, {twice("1,2!p"), "a\nb\nc\n", true, "-b\n-c\n-c\n", 24},
		// The last line, asked of twice.
		{twice("1,$p"), "a\n", true, "-a\n-a\n", 8}, {twice("$,$p"), "a\nb\n", true, "-b\n-b\n", 16}, {twice("1,$p"), "a\nb\n", true, "-a\n-a\n-b\n", 16},
		// By b, and by n in between.
		{":x;1,2p;n;bx", abc, true, "a\nb\n", 12}, {":x;/b/,/a/p;n;bx", "a\nb\na\nc\n", true, "b\na\n", 16},
	})
}
