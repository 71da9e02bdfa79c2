package match

import (
	"slices"
	"testing"

	"dragoman/api"
)

// P6.2: the least place first, then the greatest end.
func TestSpan(t *testing.T) {
	for _, x := range []struct {
		re, s string
		from  int
		a, b  int
		is    bool
	}{
		// The least place, though a longer one, or one of an earlier side, stands behind it.
		{"a+", "xaay", 0, 1, 3, true}, {"a+", "axaaa", 0, 0, 1, true}, {"aaa|x", "xaaa", 0, 0, 1, true}, {"b|abc", "abc", 0, 0, 3, true}, {"b|abd", "abc", 0, 1, 2, true}, {"a*", "xaa", 0, 0, 0, true}, {"bcd|b", "abcabcd", 0, 1, 2, true}, {"a.*z|b", "abc", 0, 1, 2, true},
		// The greatest end.
		{"a|ab", "ab", 0, 0, 2, true}, {"ab|a", "ab", 0, 0, 2, true}, {"a|ab|abc", "abcd", 0, 0, 3, true}, {"(a|ab)(c|bcd)", "abcd", 0, 0, 4, true}, {"(a|ab)(c|bcd)(d*)", "abcd", 0, 0, 4, true}, {"|a", "a", 0, 0, 1, true}, {"a?", "aa", 0, 0, 1, true}, {"a|a*b", "aaab", 0, 0, 4, true}, {"a|a*b", "aaa", 0, 0, 1, true}, {"(a*)*", "aab", 0, 0, 2, true}, {"(a*)+b", "aab", 0, 0, 3, true},
		// From inside, at the end, behind the end.
		{"b", "abb", 1, 1, 2, true}, {"b", "abb", 2, 2, 3, true}, {"b", "abb", 3, 0, 0, false}, {"a", "abb", 1, 0, 0, false}, {"a+", "aaa", 1, 1, 3, true}, {"", "abc", 0, 0, 0, true}, {"", "abc", 2, 2, 2, true}, {"", "abc", 3, 3, 3, true}, {"", "abc", 4, 0, 0, false}, {"a*", "abc", 4, 0, 0, false}, {"$", "abc", 4, 0, 0, false}, {"a", "abc", 4000, 0, 0, false}, {"", "abc", 1<<63 - 1, 0, 0, false}, {"c*", "abc", 3, 3, 3, true},
		// From below 0: from 0 on.
		{"a", "abc", -1, 0, 1, true}, {"c", "abc", -5, 2, 3, true}, {"", "abc", -1 << 63, 0, 0, true}, {"^a", "abc", -1, 0, 1, true}, {"x", "abc", -1, 0, 0, false}, {"", "", -1, 0, 0, true},
		// The empty text.
		{"", "", 0, 0, 0, true}, {"a*", "", 0, 0, 0, true}, {"(a?)+", "", 0, 0, 0, true}, {"a", "", 0, 0, 0, false}, {"^", "", 0, 0, 0, true}, {"$", "", 0, 0, 0, true}, {"^$", "", 0, 0, 0, true}, {"", "", 1, 0, 0, false}, {"$", "", 1, 0, 0, false},
		// The beginning and the end: of the text, not of what is asked of.
		{"^", "abc", 0, 0, 0, true}, {"^", "abc", 1, 0, 0, false}, {"^b", "ab", 0, 0, 0, false}, {"^b", "ab", 1, 0, 0, false}, {"a^", "ab", 0, 0, 0, false}, {"$", "abc", 0, 3, 3, true}, {"b$", "bab", 0, 2, 3, true}, {"$b", "ab", 0, 0, 0, false}, {"^a|b", "aab", 1, 2, 3, true}, {"a$|b", "aab", 0, 2, 3, true}, {"^", "a\nb", 1, 0, 0, false}, {"a$", "a\nb", 0, 0, 0, false}, {"(^|x)a", "axa", 0, 0, 1, true}, {"(^|x)a", "axa", 1, 1, 3, true},
		// Line ends, and bytes of 128 and more.
		{".", "\n", 0, 0, 0, false}, {".", "\na", 0, 1, 2, true}, {".*", "ab\nc", 0, 0, 2, true}, {`\x0a`, "ab\nc", 0, 2, 3, true}, {"[^a]", "a\nb", 0, 2, 3, true}, {`\xa9`, "aé", 0, 2, 3, true}, {`[\x80-\xff]*b`, "aéb", 0, 1, 4, true},
		// At no place.
		{"x", "abc", 0, 0, 0, false}, {`[^\x00-\xff]`, "abc", 0, 0, 0, false}, {"abcd", "abc", 0, 0, 0, false}, {"a*x", "aaa", 0, 0, 0, false},
	} {
		tree := read(t, x.re)
		if a, b, is := Span(tree, x.s, x.from); a != x.a || b != x.b || is != x.is {
			t.Errorf("Span(%s, %q, %d): %d %d %t, not %d %d %t", x.re, x.s, x.from, a, b, is, x.a, x.b, x.is)
		}
		if is := Is(tree, x.s); x.from <= 0 && is != x.is {
			t.Errorf("Is(%s, %q): %t", x.re, x.s, is)
		}
	}
}

// P6.3: the first span, then each time the first one from where the last one ended.
func TestSpans(t *testing.T) {
	for _, x := range []struct {
		re, s string
		want  [][2]int
	}{
		// Ordinary ones.
		{"a", "banana", [][2]int{{1, 2}, {3, 4}, {5, 6}}}, {"an", "banana", [][2]int{{1, 3}, {3, 5}}}, {"ana", "banana", [][2]int{{1, 4}}}, {"[an]+", "banana", [][2]int{{1, 6}}}, {"aa", "aaaaa", [][2]int{{0, 2}, {2, 4}}}, {"a|ab", "abaab", [][2]int{{0, 2}, {2, 3}, {3, 5}}}, {"a|a*b", "aaabaa", [][2]int{{0, 4}, {4, 5}, {5, 6}}}, {"[^ ]+", " some words ", [][2]int{{1, 5}, {6, 11}}}, {".", "é\n", [][2]int{{0, 1}, {1, 2}}}, {".+", "a\nbc\n", [][2]int{{0, 1}, {2, 4}}}, {`\x0a`, "a\n\n", [][2]int{{1, 2}, {2, 3}}},
		// Where the one ahead ended, an empty one counts for nothing.
		{"b*", "abb", [][2]int{{0, 0}, {1, 3}}}, {"b*", "abba", [][2]int{{0, 0}, {1, 3}, {4, 4}}}, {"b*", "bb", [][2]int{{0, 2}}}, {"b*", "bba", [][2]int{{0, 2}, {3, 3}}}, {"b*", "bbaa", [][2]int{{0, 2}, {3, 3}, {4, 4}}}, {"b*", "babab", [][2]int{{0, 1}, {2, 3}, {4, 5}}}, {"b?", "bbab", [][2]int{{0, 1}, {1, 2}, {3, 4}}}, {"a|", "baac", [][2]int{{0, 0}, {1, 2}, {2, 3}, {4, 4}}}, {"a|$", "aba", [][2]int{{0, 1}, {2, 3}}}, {"a|$", "ab", [][2]int{{0, 1}, {2, 2}}}, {"a|^", "ba", [][2]int{{0, 0}, {1, 2}}}, {"(aa)*", "aaa", [][2]int{{0, 2}, {3, 3}}},
		// Where the one ahead ended, one that isn't empty counts, and so does one behind an empty one.
		{"a*|b", "abab", [][2]int{{0, 1}, {1, 2}, {2, 3}, {3, 4}}}, {"|bc", "abc", [][2]int{{0, 0}, {1, 3}}}, {"a?", "aa", [][2]int{{0, 1}, {1, 2}}},
		// Empty everywhere.
		{"", "abba", [][2]int{{0, 0}, {1, 1}, {2, 2}, {3, 3}, {4, 4}}}, {"x*", "ab", [][2]int{{0, 0}, {1, 1}, {2, 2}}}, {"()*", "a", [][2]int{{0, 0}, {1, 1}}}, {`[^\x00-\xff]?`, "\n", [][2]int{{0, 0}, {1, 1}}},
		// The empty text.
		{"", "", [][2]int{{0, 0}}}, {"a*", "", [][2]int{{0, 0}}}, {"^", "", [][2]int{{0, 0}}}, {"$", "", [][2]int{{0, 0}}}, {"^$", "", [][2]int{{0, 0}}}, {"a", "", nil}, {"a+", "", nil},
		// The last one ends at the end; nothing behind it.
		{"b", "abb", [][2]int{{1, 2}, {2, 3}}}, {"b+", "abb", [][2]int{{1, 3}}}, {".*", "abb", [][2]int{{0, 3}}}, {".*$", "abb", [][2]int{{0, 3}}}, {"b*$", "abb", [][2]int{{1, 3}}},
		// The beginning and the end alone.
		{"^", "aaa", [][2]int{{0, 0}}}, {"$", "aaa", [][2]int{{3, 3}}}, {"^a", "aaa", [][2]int{{0, 1}}}, {"a$", "aaa", [][2]int{{2, 3}}}, {"^|$", "aaa", [][2]int{{0, 0}, {3, 3}}}, {"^a*", "aab", [][2]int{{0, 2}}}, {"^", "a\nb", [][2]int{{0, 0}}}, {"a^|b", "ab", [][2]int{{1, 2}}},
		// At no place.
		{"x", "abba", nil}, {"a^", "aa", nil}, {"$a", "aa", nil}, {`[^\x00-\xff]`, "a", nil},
	} {
		if got := Spans(read(t, x.re), x.s); !slices.Equal(got, x.want) {
			t.Errorf("Spans(%s, %q): %v, not %v", x.re, x.s, got, x.want)
		}
	}
}

// P6.4: spans stand one behind the other, and don't overlap; each of them is one from where it begins.
func TestSpansStandBehind(t *testing.T) {
	next := row(4)
	for i := range 3000 {
		tree := stray(next, 1+i%20)
		s := strayText(next, next(60))
		ahead := [2]int{-1, -1}
		for _, x := range Spans(tree, s) {
			if x[0] < ahead[1] || x[0] > x[1] || x[1] > len(s) || x == ahead || x[0] == x[1] && x[0] == ahead[1] {
				t.Fatalf("%v behind %v: of %v in %q", x, ahead, tree, s)
			}
			if a, b, is := Span(tree, s, x[0]); a != x[0] || b != x[1] || !is {
				t.Fatalf("Span(%v, %q, %d): %d %d %t, not %v", tree, s, x[0], a, b, is, x)
			}
			ahead = x
		}
	}
}

// What is no tree stands at no place: a row of no nodes, of two trees, one whose kids aren't there, or are its own.
func TestNoTree(t *testing.T) {
	none, a := api.Re{}, byteOf('a')[0]
	star := func(kid int) api.Re { return api.Re{Kind: api.RStar, Kids: [2]int{kid}} }
	cat := func(first, second int) api.Re { return api.Re{Kind: api.RCat, Kids: [2]int{first, second}} }
	for _, tree := range [][]api.Re{
		nil, {}, {{Kind: 9}}, {{Kind: -1}}, {{Kind: 1 << 62}}, {a, {Kind: 9}}, {a, a}, {none, none},
		{star(0)}, {star(-1)}, {star(1)}, {a, star(1)}, {a, star(2)}, {a, star(-1)}, {a, star(1 << 62)}, {a, star(-1 << 63)}, {a, a, star(0)}, {star(1), a},
		{cat(0, 0)}, {a, cat(0, 0)}, {a, cat(-1, 0)}, {a, a, cat(0, 0)}, {a, a, cat(1, 0)}, {a, a, cat(0, 2)}, {a, a, cat(1<<62, 1)}, {a, a, a, cat(0, 1)}, {a, a, a, cat(0, 2)}, {cat(1, 2), a, a},
	} {
		for _, s := range []string{"", "a", "aa"} {
			a, b, is := Span(tree, s, 0)
			if l := Ends(tree, s, 0); len(l) != 0 || a != 0 || b != 0 || is || Is(tree, s) || Whole(tree, s) || len(Spans(tree, s)) != 0 {
				t.Errorf("%v stands in %q: %v %d %d %t", tree, s, l, a, b, is)
			}
		}
	}
}
