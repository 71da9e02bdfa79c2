package match

import (
	"slices"
	"testing"

	"dragoman/api"
	"dragoman/class"
	"dragoman/regex"
)

// read is the tree of a text.
func read(t *testing.T, s string) []api.Re {
	t.Helper()
	tree, e := regex.Read(s)
	if e != api.OK {
		t.Fatalf("Read(%.60q): %d", s, e)
	}
	return tree
}

// one is the tree of a node without kids.
func one(kind int) []api.Re { return []api.Re{{Kind: kind}} }

// byteOf is the tree of a byte alone.
func byteOf(c byte) []api.Re { return []api.Re{{Kind: api.RSet, Set: class.One(c)}} }

// but is the tree of all bytes but one.
func but(c byte) []api.Re { return []api.Re{{Kind: api.RSet, Set: class.Not(class.One(c))}} }

// over is a tree, and a node of which it is the kid.
func over(kind int, t []api.Re) []api.Re {
	return append(slices.Clone(t), api.Re{Kind: kind, Kids: [2]int{len(t) - 1, 0}})
}

// pair is two trees, and a node of which they are the kids.
func pair(kind int, t, u []api.Re) []api.Re {
	both, e := regex.Join(t, u, kind)
	if e != api.OK {
		panic(e)
	}
	return both
}

// table tells, of each place and each other one, whether something stands from the one to the other.
type table [][]bool

// tableIf is the table of what is said of two places.
func tableIf(size int, is func(a, b int) bool) table {
	m := make(table, size)
	for a := range m {
		m[a] = make([]bool, size)
		for b := range m[a] {
			m[a][b] = is(a, b)
		}
	}
	return m
}

// through is where the one stands, and the other behind it.
func through(m, k table) table {
	return tableIf(len(m), func(a, b int) bool {
		for c := range m {
			if m[a][c] && k[c][b] {
				return true
			}
		}
		return false
	})
}

// either is where one of both stands.
func either(m, k table) table {
	return tableIf(len(m), func(a, b int) bool { return m[a][b] || k[a][b] })
}

// still is where nothing stands.
func still(size int) table {
	return tableIf(size, func(a, b int) bool { return a == b })
}

// again is where something stands any number of times: more than there are places are of no use.
func again(m table) table {
	k := still(len(m))
	for range m {
		k = either(k, through(k, m))
	}
	return k
}

// wantTable is where a node stands, by the chapter's words.
func wantTable(t []api.Re, at int, s string) table {
	n, end := t[at], len(s)
	first := func() table { return wantTable(t, n.Kids[0], s) }
	second := func() table { return wantTable(t, n.Kids[1], s) }
	switch n.Kind {
	case api.RNone:
		return still(end + 1)
	case api.RSet:
		return tableIf(end+1, func(a, b int) bool { return b == a+1 && class.Has(n.Set, s[a]) })
	case api.RCat:
		return through(first(), second())
	case api.RAlt:
		return either(first(), second())
	case api.ROpt:
		return either(still(end+1), first())
	case api.RStar:
		return again(first())
	case api.RPlus:
		return through(first(), again(first()))
	case api.RBegin:
		return tableIf(end+1, func(a, b int) bool { return a == 0 && b == 0 })
	case api.REnd:
		return tableIf(end+1, func(a, b int) bool { return a == end && b == end })
	}
	panic("no kind")
}

// ends is what Ends answers.
func (m table) ends(from int) []int {
	var l []int
	if from < 0 || from >= len(m) {
		return l
	}
	for b, is := range m[from] {
		if is {
			l = append(l, b)
		}
	}
	return l
}

// span is what Span answers.
func (m table) span(from int) (int, int, bool) {
	for a := max(from, 0); a < len(m); a++ {
		if l := m.ends(a); len(l) > 0 {
			return a, slices.Max(l), true
		}
	}
	return 0, 0, false
}

// spans is what Spans answers.
func (m table) spans() [][2]int {
	var l [][2]int
	from := 0
	for {
		a, b, is := m.span(from)
		switch {
		case !is:
			return l
		case a == b && len(l) > 0 && l[len(l)-1][1] == a:
			from = a + 1
		default:
			l = append(l, [2]int{a, b})
			from = b
		}
	}
}

// hold holds all calls' answers against what they should be.
func hold(t *testing.T, tree []api.Re, s string) {
	t.Helper()
	m := wantTable(tree, len(tree)-1, s)
	for from := -2; from <= len(s)+2; from++ {
		if got, want := Ends(tree, s, from), m.ends(from); !slices.Equal(got, want) {
			t.Fatalf("Ends(%s, %q, %d): %v, not %v", regex.Text(tree), s, from, got, want)
		}
		a, b, is := Span(tree, s, from)
		if wantA, wantB, want := m.span(from); a != wantA || b != wantB || is != want {
			t.Fatalf("Span(%s, %q, %d): %d %d %t, not %d %d %t", regex.Text(tree), s, from, a, b, is, wantA, wantB, want)
		}
	}
	if _, _, want := m.span(0); Is(tree, s) != want {
		t.Fatalf("Is(%s, %q): not %t", regex.Text(tree), s, want)
	}
	if want := m[0][len(s)]; Whole(tree, s) != want {
		t.Fatalf("Whole(%s, %q): not %t", regex.Text(tree), s, want)
	}
	if got, want := Spans(tree, s), m.spans(); !slices.Equal(got, want) {
		t.Fatalf("Spans(%s, %q): %v, not %v", regex.Text(tree), s, got, want)
	}
}

// forest are all trees of as many nodes as that at most, of few kinds of sets.
func forest(nodes int) [][]api.Re {
	by := [][][]api.Re{nil, {byteOf('a'), but('a'), one(api.RNone), one(api.RBegin), one(api.REnd)}}
	for n := 2; n <= nodes; n++ {
		var l [][]api.Re
		for _, t := range by[n-1] {
			l = append(l, over(api.RStar, t), over(api.RPlus, t), over(api.ROpt, t))
		}
		for k := 1; k < n-1; k++ {
			for _, t := range by[k] {
				for _, u := range by[n-1-k] {
					l = append(l, pair(api.RCat, t, u), pair(api.RAlt, t, u))
				}
			}
		}
		by = append(by, l)
	}
	return slices.Concat(by...)
}

// texts are all of some bytes, of as many of them as that at most.
func texts(of string, long int) []string {
	l := []string{""}
	for at := 0; len(l[at]) < long; at++ {
		for i := range len(of) {
			l = append(l, l[at]+of[i:i+1])
		}
	}
	return l
}

// row is a row of numbers that look stray, but are the same in each run.
func row(seed uint64) func(below int) int {
	return func(below int) int {
		seed = seed*6364136223846793005 + 1442695040888963407
		x := seed ^ seed>>29
		return int((x ^ x<<17) >> 1 % uint64(below))
	}
}

// strayBytes are those that stray trees and texts are made of.
const strayBytes = "aab\n\x80\xff"

// strayLeaf is a node without kids.
func strayLeaf(next func(int) int) []api.Re {
	c := strayBytes[next(len(strayBytes))]
	switch next(12) {
	case 0:
		return one(api.RNone)
	case 1:
		return one(api.RBegin)
	case 2:
		return one(api.REnd)
	case 3, 4:
		return but(c)
	case 5:
		return []api.Re{{Kind: api.RSet}}
	}
	return byteOf(c)
}

// stray is a tree that looks stray, of as many nodes as that, or one fewer.
func stray(next func(int) int, nodes int) []api.Re {
	if nodes < 2 {
		return strayLeaf(next)
	}
	if kind := []int{api.RStar, api.RPlus, api.ROpt, api.RCat, api.RAlt, api.RCat}[next(6)]; nodes > 2 && (kind == api.RCat || kind == api.RAlt) {
		first := 1 + next(nodes-2)
		return pair(kind, stray(next, first), stray(next, nodes-1-first))
	}
	return over([]int{api.RStar, api.RPlus, api.ROpt}[next(3)], stray(next, nodes-1))
}

// strayText is a text that looks stray, of as many bytes as that.
func strayText(next func(int) int, long int) string {
	s := make([]byte, long)
	for i := range s {
		s[i] = strayBytes[next(len(strayBytes))]
	}
	return string(s)
}

// P6.1, P6.2, P6.3: all small trees, over all short texts.
func TestAll(t *testing.T) {
	short, long := texts("ab", 2), texts("ab", 4)
	for _, tree := range forest(5) {
		l := long
		if len(tree) == 5 {
			l = short
		}
		for _, s := range l {
			hold(t, tree, s)
		}
	}
}

// P6.1, P6.2, P6.3: stray trees, over stray texts of bytes of all kinds.
func TestStray(t *testing.T) {
	next := row(6)
	stands := 0
	for i := range 3000 {
		tree := stray(next, 1+i%40)
		if !regex.Right(tree) {
			t.Fatalf("not right: %v", tree)
		}
		s := strayText(next, next(13))
		hold(t, tree, s)
		if len(Spans(tree, s)) > 1 {
			stands++
		}
	}
	if stands < 500 {
		t.Errorf("only %d of them stand more than once", stands)
	}
}

// The chapter's examples.
func TestExamples(t *testing.T) {
	if a, b, is := Span(read(t, "a+"), "xaay", 0); a != 1 || b != 3 || !is {
		t.Errorf("Span of a+ in xaay: %d %d %t", a, b, is)
	}
	if l := Spans(read(t, "b*"), "abb"); !slices.Equal(l, [][2]int{{0, 0}, {1, 3}}) {
		t.Errorf("Spans of b* in abb: %v", l)
	}
}
