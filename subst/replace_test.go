package subst

import (
	"regexp"
	"strings"
	"testing"

	"dragoman/api"
	"dragoman/match"
	"dragoman/regex"
)

// tree is the tree of a text.
func tree(t *testing.T, s string) []api.Re {
	t.Helper()
	n, e := regex.Read(s)
	if e != api.OK {
		t.Fatalf("regex.Read(%.60q): %d", s, e)
	}
	return n
}

// by is the replacement of a text.
func by(t *testing.T, s string) []string {
	t.Helper()
	l, e := Read(s)
	if e != api.OK {
		t.Fatalf("Read(%.60q): %d", s, e)
	}
	return l
}

// holdBoth holds what First and All answer against what they should.
func holdBoth(t *testing.T, re, s string, l []string, first, all string, many int) {
	t.Helper()
	n := tree(t, re)
	if got, k := First(n, s, l); got != first || k != min(many, 1) {
		t.Errorf("First(%s, %q, %q): %q %d, not %q %d", re, s, l, got, k, first, min(many, 1))
	}
	if got, k := All(n, s, l); got != all || k != many {
		t.Errorf("All(%s, %q, %q): %q %d, not %q %d", re, s, l, got, k, all, many)
	}
}

// P7.2: the first one, and all of them.
func TestReplace(t *testing.T) {
	for _, x := range []struct {
		re, s, by  string
		first, all string
		many       int
	}{
		{"a", "banana", "[&]", "b[a]nana", "b[a]n[a]n[a]", 3},
		{"a", "banana", "", "bnana", "bnn", 3},
		{"a", "banana", "o", "bonana", "bonono", 3},
		{"a", "banana", "&", "banana", "banana", 3},
		{"an", "banana", "&&", "bananana", "banananana", 2},
		{"an", "banana", "<&|&>", "b<an|an>ana", "b<an|an><an|an>a", 2},
		{"ana", "banana", "<&>", "b<ana>na", "b<ana>na", 1},
		{"a|an", "banana", "<&>", "b<an>ana", "b<an><an><a>", 3},
		{"[^n]+", "banana", "<&>", "<ba>nana", "<ba>n<a>n<a>", 3},
		{".*", "banana", "<&>", "<banana>", "<banana>", 1},
		// The text's beginning and its end.
		{"^", "ab", "!", "!ab", "!ab", 1},
		{"^.", "ab", "<&>", "<a>b", "<a>b", 1},
		{"^a", "aaa", "", "aa", "aa", 1},
		{"$", "ab", "!", "ab!", "ab!", 1},
		{".$", "ab", "<&>", "a<b>", "a<b>", 1},
		{"b", "ab", "<&>", "a<b>", "a<b>", 1},
		{"a$", "aaa", "", "aa", "aa", 1},
		{"^|$", "ab", "&-&", "-ab", "-ab-", 2},
		{"^$", "", "x", "x", "x", 1},
		{"^$", "a", "x", "a", "a", 0},
		{"^a*$", "aa", "(&)", "(aa)", "(aa)", 1},
		// Empty ones, at the beginning, inside and at the end.
		{"", "", "z", "z", "z", 1},
		{"", "", "", "", "", 1},
		{"", "", "&&", "", "", 1},
		{"", "abc", "-", "-abc", "-a-b-c-", 4},
		{"", "abc", "<&>", "<>abc", "<>a<>b<>c<>", 4},
		{"", "abc", "", "abc", "abc", 4},
		{"()*", "ab", "-", "-ab", "-a-b-", 3},
		{"x*", "ab", "-", "-ab", "-a-b-", 3},
		{"b*", "", "<&>", "<>", "<>", 1},
		{"b*", "abba", "<&>", "<>abba", "<>a<bb>a<>", 3},
		{"b*", "abb", "<&>", "<>abb", "<>a<bb>", 2},
		{"b*", "bba", "<&>", "<bb>a", "<bb>a<>", 2},
		{"b*", "baab", "<&>", "<b>aab", "<b>a<>a<b>", 3},
		{"b*", "bb", "<&>", "<bb>", "<bb>", 1},
		{"b?", "abb", "<&>", "<>abb", "<>a<b><b>", 3},
		{"a|$", "ba", "<&>", "b<a>", "b<a>", 1},
		{"a|$", "ab", "<&>", "<a>b", "<a>b<>", 2},
		// Nothing is found.
		{"x", "", "y", "", "", 0},
		{"x", "banana", "y", "banana", "banana", 0},
		{"x", "banana", "&&", "banana", "banana", 0},
		{"an+b", "banana", "y", "banana", "banana", 0},
		{"nn", "banana", "", "banana", "banana", 0},
		{"a^", "aa", "y", "aa", "aa", 0},
		{"A", "banana", "y", "banana", "banana", 0},
		{".", "\n", "y", "\n", "\n", 0},
		// What is put in isn't looked at again, nor is what came of it and what stands beside it.
		{"a", "banana", "aa", "baanana", "baanaanaa", 3},
		{"a", "aaa", "&&", "aaaa", "aaaaaa", 3},
		{"ab", "aabb", "", "ab", "ab", 1},
		{"ab", "aabbab", "a", "aabab", "aaba", 2},
		{"ba", "bbaa", "b", "bba", "bba", 1},
		{"a*", "baa", "a", "abaa", "aba", 2},
		{"^a", "aab", "", "ab", "ab", 1},
		{"^a", "aab", "ba", "baab", "baab", 1},
		{"a$", "baa", "", "ba", "ba", 1},
		{"b$", "abb", "&a", "abba", "abba", 1},
		// What was put in is not what a replacement is written like.
		{".", `&\`, "&&", `&&\`, `&&\\`, 2},
		{"a", "banana", `\&`, "b&nana", "b&n&n&", 3},
		{"a", "banana", `\\&`, `b\anana`, `b\an\an\a`, 3},
		{`\x26`, "a&b&", "<&>", "a<&>b&", "a<&>b<&>", 2},
		{`\\`, `a\1`, `&&`, `a\\1`, `a\\1`, 1},
		// Bytes of all kinds.
		{`\x2f`, "a/b/", `\x0a`, "a\nb/", "a\nb\n", 2},
		{`\x0a`, "a\nb\n", "", "ab\n", "ab", 2},
		{`[\x80-\xff]`, "éa", "<&>", "<\xc3>\xa9a", "<\xc3><\xa9>a", 2},
		{`\xc3`, "é", `\xc3&`, "\xc3\xc3\xa9", "\xc3\xc3\xa9", 1},
		{`\x00`, "\x00a\x00", "&0", "\x000a\x00", "\x000a\x000", 2},
		{".", "\x00\xff", `\xff`, "\xff\xff", "\xff\xff", 2},
	} {
		holdBoth(t, x.re, x.s, by(t, x.by), x.first, x.all, x.many)
	}
}

// P7.2: a row without texts puts in nothing.
func TestNoTexts(t *testing.T) {
	for _, l := range [][]string{nil, {}} {
		holdBoth(t, "a", "banana", l, "bnana", "bnn", 3)
		holdBoth(t, "a*", "", l, "", "", 1)
		holdBoth(t, "", "abc", l, "abc", "abc", 4)
		holdBoth(t, ".*", "abc", l, "", "", 1)
		holdBoth(t, "x", "banana", l, "banana", "banana", 0)
		holdBoth(t, "x", "", l, "", "", 0)
	}
}

// P7.2: a row of one text, and of texts that no text may be written with as they are.
func TestTexts(t *testing.T) {
	holdBoth(t, "n", "banana", []string{"/\n&\\"}, "ba/\n&\\ana", "ba/\n&\\a/\n&\\a", 2)
	holdBoth(t, "n", "banana", []string{"&", "/", "\n"}, "ba&n/n\nana", "ba&n/n\na&n/n\na", 2)
	holdBoth(t, "n+", "nnan", []string{"", "", "", ""}, "nnnnnnan", "nnnnnnannn", 2)
	holdBoth(t, "n+", "nnan", []string{"", "+", ""}, "nn+nnan", "nn+nnan+n", 2)
}

// P7.2: of a row that is no tree nothing is found.
func TestNoTree(t *testing.T) {
	for _, n := range [][]api.Re{nil, {}, {{Kind: 9}}, {{Kind: api.RCat}}, {{Kind: api.RStar, Kids: [2]int{-1, 7}}}} {
		for _, s := range []string{"", "abc"} {
			if got, k := First(n, s, []string{"x"}); got != s || k != 0 {
				t.Errorf("First(%v, %q): %q %d", n, s, got, k)
			}
			if got, k := All(n, s, []string{"x"}); got != s || k != 0 {
				t.Errorf("All(%v, %q): %q %d", n, s, got, k)
			}
		}
	}
}

// strayRe is the text of a regular expression, of that depth at most, that Go's own ones read likewise.
func strayRe(next func(int) int, deep int) string {
	if deep == 0 || next(5) == 0 {
		return []string{"a", "b", "a", "b", "c", ".", "^", "$", "()", "[ab]", "[^a]"}[next(11)]
	}
	one := func() string { return strayRe(next, deep-1) }
	switch next(6) {
	case 0:
		return "(" + one() + ")*"
	case 1:
		return "(" + one() + ")+"
	case 2:
		return "(" + one() + ")?"
	case 3:
		return "(" + one() + "|" + one() + ")"
	}
	return one() + one()
}

// goRe is the same one as one of Go's own.
func goRe(re string) *regexp.Regexp {
	n := regexp.MustCompile(re)
	n.Longest()
	return n
}

// P7.2: as Go's own regular expressions replace.
func TestAgainstGo(t *testing.T) {
	next := row(3)
	found, more := 0, 0
	for i := range 6000 {
		re := strayRe(next, 1+i%4)
		n, goN := tree(t, re), goRe(re)
		l := strayRow(next, 4)
		s := strayText(next, "aabbc", next(14))
		if i%50 == 0 {
			s = strayText(next, "aabbc", 300)
		}
		many := 0
		all := goN.ReplaceAllStringFunc(s, func(what string) string {
			many++
			return wantPut(l, what)
		})
		first := s
		if at := goN.FindStringIndex(s); at != nil {
			first = s[:at[0]] + wantPut(l, s[at[0]:at[1]]) + s[at[1]:]
		}
		if got, k := First(n, s, l); got != first || k != min(many, 1) {
			t.Fatalf("First(%s, %q, %q): %q %d, not %q %d", re, s, l, got, k, first, min(many, 1))
		}
		if got, k := All(n, s, l); got != all || k != many {
			t.Fatalf("All(%s, %q, %q): %q %d, not %q %d", re, s, l, got, k, all, many)
		}
		found += min(many, 1)
		more += min(many/2, 1)
	}
	if found < 3000 || more < 2000 {
		t.Errorf("found only %d times, more than one only %d times", found, more)
	}
}

// P7.2: as chapter 6's Spans say, on all short texts, with many rows.
func TestAgainstSpans(t *testing.T) {
	next := row(9)
	short := texts("ab\n", 5)
	for _, re := range []string{"a", "b*", "a|ab", "(a|b)+", "^a|b$", "$|^", "", "[^a]?", "x", "aa|b", `(a\x0a?)*`} {
		n := tree(t, re)
		for _, s := range short {
			l := strayRow(next, 3)
			spans := match.Spans(n, s)
			// From the last one on: so the places ahead hold.
			all, first := s, s
			for i := len(spans) - 1; i >= 0; i-- {
				a, b := spans[i][0], spans[i][1]
				put := wantPut(l, s[a:b])
				all = all[:a] + put + all[b:]
				first = s[:a] + put + s[b:]
			}
			holdBoth(t, re, s, l, first, all, len(spans))
		}
	}
}

// P7.2: long texts, and many spans at once.
func TestLong(t *testing.T) {
	const long = 100000
	a := strings.Repeat("a", long)
	ab := strings.Repeat("ab", long/2)
	rep := strings.Repeat
	holdBoth(t, "a", a, by(t, "[&]"), "[a]"+a[1:], rep("[a]", long), long)
	holdBoth(t, "a", a, by(t, ""), a[1:], "", long)
	holdBoth(t, "a*", a, by(t, "<&&>"), "<"+a+a+">", "<"+a+a+">", 1)
	holdBoth(t, "", a, by(t, "-"), "-"+a, "-"+rep("a-", long), long+1)
	holdBoth(t, "b", ab, by(t, `&\&`), "ab&"+ab[2:], rep("ab&", long/2), long/2)
	holdBoth(t, "b*", ab, by(t, "-"), "-"+ab, "-a"+rep("-a", long/2-1)+"-", long/2+1)
	holdBoth(t, "b$", ab, by(t, "c"), ab[:long-1]+"c", ab[:long-1]+"c", 1)
	holdBoth(t, "ab", ab, by(t, rep("&", 20)), rep("ab", 20)+ab[2:], rep("ab", 20*long/2), long/2)
	holdBoth(t, "x", ab, by(t, "y"), ab, ab, 0)
	holdBoth(t, "a+$", a, by(t, rep("&", 100)+rep("x", long)), rep(a, 100)+rep("x", long), rep(a, 100)+rep("x", long), 1)
}
