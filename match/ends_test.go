package match

import (
	"slices"
	"testing"

	"dragoman/api"
	"dragoman/class"
)

// P6.1: to which places it stands, by each kind of node.
func TestEnds(t *testing.T) {
	for _, x := range []struct {
		re, s string
		from  int
		want  []int
	}{
		// RNone: only where it is.
		{"", "", 0, []int{0}}, {"", "ab", 0, []int{0}}, {"", "ab", 1, []int{1}}, {"", "ab", 2, []int{2}}, {"()()", "ab", 1, []int{1}},
		// RSet: one byte; none at the end.
		{"a", "ab", 0, []int{1}}, {"a", "ab", 1, nil}, {"b", "ab", 1, []int{2}}, {"b", "ab", 2, nil}, {"a", "", 0, nil}, {".", "ab", 2, nil}, {"[ab]", "ab", 1, []int{2}}, {"[^a]", "ab", 0, nil}, {`[^\x00-\xff]`, "ab", 0, nil},
		// Bytes of 128 and more, byte 0, and byte 10.
		{`\x80`, "\x80", 0, []int{1}}, {`[\xc3][\xa9]`, "é", 0, []int{2}}, {".", "é", 0, []int{1}}, {".", "é", 1, []int{2}}, {`\xff`, "\x7f", 0, nil}, {`[\x80-\xff]+`, "a\x80\xbf\xc0\xff", 1, []int{2, 3, 4, 5}}, {".", "\x00", 0, []int{1}}, {`\x00`, "a\x00", 1, []int{2}}, {".", "\n", 0, nil}, {`\x0a`, "\n", 0, []int{1}}, {"[^a]", "\n", 0, nil}, {".*", "a\nb", 0, []int{0, 1}}, {`[\x00-\xff]*`, "a\nb", 0, []int{0, 1, 2, 3}},
		// RCat: the second one where the first one ends, wherever that may be.
		{"ab", "abc", 0, []int{2}}, {"ab", "abc", 1, nil}, {"ab", "a", 0, nil}, {"a*a", "aaa", 0, []int{1, 2, 3}}, {"a?ab?", "aab", 0, []int{1, 2, 3}}, {"a()b", "ab", 0, []int{2}}, {"(a|ab)(c|bcd)", "abcd", 0, []int{3, 4}}, {"a(bc)", "abc", 0, []int{3}}, {"(ab)c", "abd", 0, nil},
		// RAlt: either one; the second one may be the longer one; each end once.
		{"a|b", "ab", 0, []int{1}}, {"a|b", "ab", 1, []int{2}}, {"a|b", "c", 0, nil}, {"a|ab", "ab", 0, []int{1, 2}}, {"ab|a", "ab", 0, []int{1, 2}}, {"a|a", "a", 0, []int{1}}, {"|a", "a", 0, []int{0, 1}}, {"a|", "b", 0, []int{0}}, {"abc|ab|a|", "abcd", 0, []int{0, 1, 2, 3}},
		// ROpt: once, or not at all.
		{"a?", "aa", 0, []int{0, 1}}, {"a?", "b", 0, []int{0}}, {"a??", "aa", 0, []int{0, 1}}, {"(a?)?", "", 0, []int{0}}, {"(ab)?", "abab", 0, []int{0, 2}},
		// RStar: any number of times, rising.
		{"a*", "aab", 0, []int{0, 1, 2}}, {"a*", "aab", 1, []int{1, 2}}, {"a*", "aab", 2, []int{2}}, {"a*", "aab", 3, []int{3}}, {"(ab)*", "ababa", 0, []int{0, 2, 4}}, {"(aa|aaa)*", "aaaaa", 0, []int{0, 2, 3, 4, 5}}, {"a*b?", "aab", 0, []int{0, 1, 2, 3}},
		// RPlus: once at least.
		{"a+", "aab", 0, []int{1, 2}}, {"a+", "baa", 0, nil}, {"a+", "", 0, nil}, {"(ab)+", "ababa", 0, []int{2, 4}}, {"(ab|b)+", "abb", 0, []int{2, 3}},
		// Stars in stars, and over what stands from a place to the same one.
		{"(a*)*", "aab", 0, []int{0, 1, 2}}, {"a**", "aab", 0, []int{0, 1, 2}}, {"((a*)*)*", "b", 0, []int{0}}, {"(a*b*)*", "abc", 0, []int{0, 1, 2}}, {"(a+)+", "aa", 0, []int{1, 2}}, {"()*", "a", 0, []int{0}}, {"()+", "a", 1, []int{1}}, {"(a?)+", "", 0, []int{0}}, {"(a?)*", "aa", 0, []int{0, 1, 2}}, {"(|a)+", "aa", 0, []int{0, 1, 2}}, {"(a|b*)*", "bab", 0, []int{0, 1, 2, 3}}, {"(a*)+b", "aab", 0, []int{3}}, {"^*", "a", 0, []int{0}}, {"^*", "a", 1, []int{1}}, {"^+", "a", 0, []int{0}}, {"^+", "a", 1, nil}, {"$+", "a", 1, []int{1}}, {"$+", "a", 0, nil}, {"(^a)*", "aa", 0, []int{0, 1}}, {"(a$)*", "aa", 1, []int{1, 2}},
		// RBegin, REnd: at the beginning and the end alone.
		{"^", "ab", 0, []int{0}}, {"^", "ab", 1, nil}, {"^", "ab", 2, nil}, {"$", "ab", 0, nil}, {"$", "ab", 1, nil}, {"$", "ab", 2, []int{2}}, {"^", "", 0, []int{0}}, {"$", "", 0, []int{0}}, {"^$", "", 0, []int{0}}, {"$^", "", 0, []int{0}}, {"^$", "a", 0, nil}, {"^a", "aa", 0, []int{1}}, {"^a", "aa", 1, nil}, {"a$", "aa", 0, nil}, {"a$", "aa", 1, []int{2}}, {"a^b", "ab", 0, nil}, {"a$b", "ab", 0, nil}, {"a*^", "aa", 0, []int{0}}, {"a*$", "aa", 0, []int{2}}, {"$a", "a", 0, nil}, {"^", "a\nb", 2, nil}, {"$", "a\nb", 1, nil}, {"(^|a)b?", "ab", 0, []int{0, 1, 2}},
		// At no place.
		{"x", "abc", 0, nil}, {"abcd", "abc", 0, nil}, {"a*x", "aaa", 0, nil}, {`[^\x00-\xff]|x`, "abc", 1, nil}, {`[^\x00-\xff]*`, "abc", 1, []int{1}}, {`[^\x00-\xff]+`, "abc", 1, nil},
	} {
		if got := Ends(read(t, x.re), x.s, x.from); !slices.Equal(got, x.want) {
			t.Errorf("Ends(%s, %q, %d): %v, not %v", x.re, x.s, x.from, got, x.want)
		}
	}
}

// P6.1: a set has each byte that is in it, and no other one.
func TestEndsBytes(t *testing.T) {
	for c := range 256 {
		for d := range 256 {
			s := string([]byte{byte(d)})
			if got, want := len(Ends(byteOf(byte(c)), s, 0)), 0; (got != want) != (c == d) {
				t.Errorf("Ends of byte %d in %q: %d", c, s, got)
			}
			if got := Whole(but(byte(c)), s); got != (c != d) {
				t.Errorf("Whole of all but byte %d in %q: %t", c, s, got)
			}
		}
	}
	tree := []api.Re{{Kind: api.RSet, Set: class.Span(128, 255)}, {Kind: api.RPlus}}
	if got := Ends(tree, "\x7f\x80\xff\x7f", 1); !slices.Equal(got, []int{2, 3}) {
		t.Errorf("Ends of bytes from 128 on: %v", got)
	}
}

// P6.1: from below 0, and from behind the end, there are none, whatever it is.
func TestEndsOutside(t *testing.T) {
	for _, re := range []string{"", "a", "a*", "^", "$", "^*", "$?", "(a|)+", "x"} {
		tree := read(t, re)
		for _, s := range []string{"", "a", "aaa"} {
			for _, from := range []int{-1, -2, -100, -1 << 63, len(s) + 1, len(s) + 2, len(s) + 5000, 1<<63 - 1} {
				if got := Ends(tree, s, from); len(got) != 0 {
					t.Errorf("Ends(%s, %q, %d): %v", re, s, from, got)
				}
			}
		}
	}
}

// P6.1: whether it stands from 0 to the end.
func TestWhole(t *testing.T) {
	for _, x := range []struct {
		re, s string
		want  bool
	}{
		{"", "", true}, {"", "a", false}, {"a", "a", true}, {"a", "", false}, {"a", "aa", false}, {"a", "ab", false}, {"a", "ba", false}, {"a*b?", "aab", true}, {"a*b?", "aba", false}, {"a*", "", true}, {"a+", "", false}, {"a|ab", "ab", true}, {"ab|a", "a", true}, {"(a|ab)(c|bcd)", "abcd", true}, {"(a|ab)(c|bcd)", "abc", true}, {"(a|ab)(c|bcd)", "abbcd", true}, {"(a|ab)(c|bcd)", "abcbcd", false},
		{"^", "", true}, {"$", "", true}, {"^$", "", true}, {"^", "a", false}, {"^a$", "a", true}, {"^a", "a", true}, {"a$", "a", true}, {"a^", "a", false}, {"$a", "a", false}, {"^^a$$", "a", true}, {"a|^b", "b", true},
		{".*", "a\n", false}, {`.*\x0a`, "a\n", true}, {"..", "é", true}, {".", "é", false}, {"(a*)*", "aaaa", true}, {"(a*)*b", "aaaa", false}, {"(aa)*", "aaaaa", false}, {"(aa|aaa)*", "aaaaa", true}, {"x", "abc", false},
	} {
		if got := Whole(read(t, x.re), x.s); got != x.want {
			t.Errorf("Whole(%s, %q): %t", x.re, x.s, got)
		}
	}
}

// P6.4: of a star all ends of a step's ends are ends.
func TestStarGoesOn(t *testing.T) {
	next := row(64)
	steps := 0
	for i := range 1500 {
		kid := stray(next, 1+i%12)
		star := over(api.RStar, kid)
		s := strayText(next, next(12))
		for from := range len(s) + 1 {
			ends := Ends(star, s, from)
			if !slices.Contains(ends, from) {
				t.Fatalf("%v of %v in %q from %d: not that", ends, star, s, from)
			}
			for _, at := range Ends(kid, s, from) {
				steps++
				for _, end := range Ends(star, s, at) {
					if !slices.Contains(ends, end) {
						t.Fatalf("%v of %v in %q from %d: not %d, by %d", ends, star, s, from, end, at)
					}
				}
			}
		}
	}
	if steps < 1000 {
		t.Errorf("only %d steps", steps)
	}
}
