package match

import (
	"regexp"
	"slices"
	"strconv"
	"strings"
	"testing"

	"dragoman/api"
	"dragoman/class"
	"dragoman/regex"
)

// full is a text's tree of MaxNodes nodes, or one fewer.
func full(t *testing.T, s string) []api.Re {
	t.Helper()
	tree := read(t, s)
	if len(tree) < api.MaxNodes-1 {
		t.Fatalf("only %d nodes", len(tree))
	}
	return tree
}

// known is what all calls answer: of Ends, how many from 0 on, and the greatest one.
type known struct {
	ends, far int
	whole     bool
	a, b      int
	is        bool
	spans     int
}

// holdKnown holds all calls' answers against what is known.
func holdKnown(t *testing.T, what string, tree []api.Re, s string, want known) {
	t.Helper()
	var got known
	l := Ends(tree, s, 0)
	if got.ends = len(l); got.ends > 0 {
		got.far = l[len(l)-1]
	}
	if !slices.IsSorted(l) {
		t.Errorf("%s: Ends don't rise", what)
	}
	got.whole = Whole(tree, s)
	got.a, got.b, got.is = Span(tree, s, 0)
	got.spans = len(Spans(tree, s))
	if got != want || Is(tree, s) != want.is {
		t.Errorf("%s: %+v %t, not %+v", what, got, Is(tree, s), want)
	}
}

// P6.1, P6.2, P6.3: stars in stars, and choices, over a text of some thousand bytes.
func TestLongText(t *testing.T) {
	const long = 6000
	a := strings.Repeat("a", long)
	deep := strings.Repeat("(", 30) + "a" + strings.Repeat("*)", 30)
	for _, x := range []struct {
		re, s string
		want  known
	}{
		{"(a*)*", a, known{long + 1, long, true, 0, long, true, 1}},
		{"(a*)*b", a, known{}},
		{"(a*)*b", a + "b", known{1, long + 1, true, 0, long + 1, true, 1}},
		{"((a*)*)*b|b", a + "bab", known{1, long + 1, false, 0, long + 1, true, 2}},
		{deep, a, known{long + 1, long, true, 0, long, true, 1}},
		{deep + "b", a, known{}},
		{deep + "b", a + "b", known{1, long + 1, true, 0, long + 1, true, 1}},
		{"(a|aa)*$", a, known{1, long, true, 0, long, true, 1}},
		{"(a|aa)+b", a, known{}},
		{"(a+)+(a+)+b", a, known{}},
		{"((a|aa)*(a|aaa)*)*x?", a, known{long + 1, long, true, 0, long, true, 1}},
		{"a|a*b", a, known{1, 1, false, 0, 1, true, long}},
		{"a|a*b", a + "b", known{2, long + 1, true, 0, long + 1, true, 1}},
		{".*.*.*b", a, known{}},
		{"(a(.|..*x)*x|a)*", a, known{long + 1, long, true, 0, long, true, 1}},
		{"(a(a(a(.*x)*x)*x)*)*", a, known{long + 1, long, true, 0, long, true, 1}},
		{"", a, known{1, 0, false, 0, 0, true, long + 1}},
		{"b*", a, known{1, 0, false, 0, 0, true, long + 1}},
		{"a", a, known{1, 1, false, 0, 1, true, long}},
		{"a$", a, known{0, 0, false, long - 1, long, true, 1}},
		{"^a", a, known{1, 1, false, 0, 1, true, 1}},
		{"b", a, known{}},
	} {
		holdKnown(t, x.re, read(t, x.re), x.s, x.want)
	}
}

// P6.1, P6.2, P6.3: trees of as many nodes as may be, over texts of some thousand bytes.
func TestManyNodes(t *testing.T) {
	const long = 3000
	a := strings.Repeat("a", long)
	for _, x := range []struct {
		what, re, s string
		want        known
	}{
		{"bytes", strings.Repeat("a", 1000), a, known{1, 1000, false, 0, 1000, true, 3}},
		{"bytes", strings.Repeat("a", 1000), a[:999], known{}},
		{"bytes", strings.Repeat("a", 999) + "b", a, known{}},
		{"maybe", strings.Repeat("a?", 667), a, known{668, 667, false, 0, 667, true, 5}},
		{"stars", strings.Repeat("a*", 666) + "b", a, known{}},
		{"stars", strings.Repeat("a*", 667), a, known{long + 1, long, true, 0, long, true, 1}},
		{"star of star", "a" + strings.Repeat("*", 1999), a, known{long + 1, long, true, 0, long, true, 1}},
		{"plus of plus", "a" + strings.Repeat("+", 1997) + "b", a, known{}},
		{"all of all", "a" + strings.Repeat("*+?", 666), a, known{long + 1, long, true, 0, long, true, 1}},
		{"choices", "(" + strings.Repeat("a|", 999) + "b)*", a + "b", known{long + 2, long + 1, true, 0, long + 1, true, 1}},
		{"begins", strings.Repeat("^", 999) + "a", a, known{1, 1, false, 0, 1, true, 1}},
		{"ends", "a" + strings.Repeat("$", 999), a, known{0, 0, false, long - 1, long, true, 1}},
	} {
		holdKnown(t, x.what, full(t, x.re), x.s, x.want)
	}
	// Each second kid is a pair itself: no text of so many brackets is read.
	right := byteOf('a')
	for len(right)+2 <= api.MaxNodes {
		right = pair(api.RCat, byteOf('a'), right)
	}
	holdKnown(t, "on the right", right, a, known{1, 1000, false, 0, 1000, true, 3})
	holdKnown(t, "star on the right", over(api.RStar, right), a, known{4, long, true, 0, long, true, 1})
}

// P6.1, P6.2: the tree of a thousand bytes of all kinds stands where these do.
func TestLit(t *testing.T) {
	next := row(17)
	s := make([]byte, 5000)
	for i := range s {
		s[i] = byte(next(256))
	}
	text := string(s)
	for _, from := range []int{0, 1, 1234, 4000} {
		tree, e := regex.Lit(text[from : from+1000])
		if e != api.OK {
			t.Fatalf("Lit: %d", e)
		}
		if a, b, is := Span(tree, text, 0); a != from || b != from+1000 || !is {
			t.Errorf("Span of 1000 bytes from %d on: %d %d %t", from, a, b, is)
		}
		if l := Ends(tree, text, from); !slices.Equal(l, []int{from + 1000}) {
			t.Errorf("Ends of 1000 bytes from %d on: %v", from, l)
		}
	}
}

// goClass is a set in the language of Go's own regular expressions, bytes as runes.
func goClass(k api.Class) string {
	if k == (api.Class{}) {
		return `[^\x00-\x{10FFFF}]`
	}
	s := "["
	for c := range 256 {
		if class.Has(k, byte(c)) {
			s += `\x{` + strconv.FormatInt(int64(c), 16) + `}`
		}
	}
	return s + "]"
}

// goText is a node in that language.
func goText(t []api.Re, at int) string {
	n := t[at]
	kid := func(i int) string { return "(?:" + goText(t, n.Kids[i]) + ")" }
	switch n.Kind {
	case api.RSet:
		return goClass(n.Set)
	case api.RCat:
		return kid(0) + kid(1)
	case api.RAlt:
		return kid(0) + "|" + kid(1)
	case api.RStar:
		return kid(0) + "*"
	case api.RPlus:
		return kid(0) + "+"
	case api.ROpt:
		return kid(0) + "?"
	case api.RBegin:
		return `\A`
	case api.REnd:
		return `\z`
	}
	return "(?:)"
}

// goSpans are the spans that Go's own regular expressions find.
func goSpans(t []api.Re, s string) [][2]int {
	var runes strings.Builder
	place := map[int]int{}
	for i := range len(s) {
		place[runes.Len()] = i
		runes.WriteRune(rune(s[i]))
	}
	place[runes.Len()] = len(s)
	re := regexp.MustCompile(goText(t, len(t)-1))
	re.Longest()
	var l [][2]int
	for _, x := range re.FindAllStringIndex(runes.String(), -1) {
		l = append(l, [2]int{place[x[0]], place[x[1]]})
	}
	return l
}

// P6.2, P6.3: as Go's own regular expressions find them, in longer texts.
func TestAgainstGo(t *testing.T) {
	next := row(5)
	spans := 0
	for i := range 1500 {
		tree := stray(next, 1+i%60)
		s := strayText(next, next(300))
		want := goSpans(tree, s)
		got := Spans(tree, s)
		if !slices.Equal(got, want) {
			t.Fatalf("Spans(%s, %q): %v, not %v", regex.Text(tree), s, got, want)
		}
		spans += len(got)
		a, b, is := Span(tree, s, 0)
		if is != (len(want) > 0) || is && [2]int{a, b} != want[0] || Is(tree, s) != is {
			t.Fatalf("Span(%s, %q): %d %d %t", regex.Text(tree), s, a, b, is)
		}
	}
	if spans < 10000 {
		t.Errorf("only %d spans", spans)
	}
}

// answers are what all calls answer.
type answers struct {
	ends      []int
	a, b      int
	is        bool
	any, same bool
	spans     [][2]int
}

// asked asks all calls.
func asked(t []api.Re, s string, from int) answers {
	var x answers
	x.ends = Ends(t, s, from)
	x.a, x.b, x.is = Span(t, s, from)
	x.any, x.same = Is(t, s), Whole(t, s)
	x.spans = Spans(t, s)
	return x
}

// alike: are both the same?
func alike(x, y answers) bool {
	return slices.Equal(x.ends, y.ends) && x.a == y.a && x.b == y.b && x.is == y.is && x.any == y.any && x.same == y.same && slices.Equal(x.spans, y.spans)
}

// R3, R4: nothing is kept between calls, in whatever turns they come; nothing that is handed in is written into; what comes out is nobody else's.
func TestNothingKept(t *testing.T) {
	trees := [][]api.Re{read(t, "a*b?"), read(t, "(a|ab)(c|bcd)*"), read(t, "^b|a$"), read(t, ""), read(t, "x"), {{Kind: 9}}, nil}
	texts := []string{"", "aab", "abcd", "banana", "x"}
	var first []answers
	for round := range 3 {
		at := 0
		for _, tree := range trees {
			for _, s := range texts {
				for from := -1; from < 4; from++ {
					was := slices.Clone(tree)
					got := asked(tree, s, from)
					if !slices.Equal(tree, was) {
						t.Fatalf("%v was written into: %v", was, tree)
					}
					if round == 0 {
						first = append(first, got)
					} else if !alike(got, first[at]) {
						t.Fatalf("asked again of %v in %q from %d: %v, not %v", tree, s, from, got, first[at])
					}
					at++
				}
			}
		}
	}
	tree := trees[0]
	got, want := asked(tree, "aabab", 0), asked(tree, "aabab", 0)
	for i := range got.ends {
		got.ends[i] = -7
	}
	for i := range got.spans {
		got.spans[i] = [2]int{-7, -7}
	}
	if again := asked(tree, "aabab", 0); !alike(again, want) {
		t.Errorf("an answer's change is seen: %v, not %v", again, want)
	}
	// A tree that is changed behind a call is asked as it is then.
	tree = byteOf('a')
	if !Is(tree, "a") || Is(tree, "b") {
		t.Error("a byte alone")
	}
	tree[0].Set = class.One('b')
	if Is(tree, "a") || !Is(tree, "b") {
		t.Error("another byte alone")
	}
}
