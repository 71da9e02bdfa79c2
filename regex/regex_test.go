package regex

import (
	"slices"
	"strings"
	"testing"

	"dragoman/api"
	"dragoman/class"
)

// row is a row of numbers that look stray, but are the same in each run.
func row(seed uint64) func() uint64 {
	return func() uint64 {
		seed = seed*6364136223846793005 + 1442695040888963407
		x := seed ^ seed>>29
		return x ^ x<<17
	}
}

// one is the tree of a node without kids.
func one(kind int) []api.Re { return []api.Re{{Kind: kind}} }

// in is the tree of a class.
func in(k api.Class) []api.Re { return []api.Re{{Kind: api.RSet, Set: k}} }

// set is the tree of a class of a text's bytes.
func set(s string) []api.Re {
	var k api.Class
	for i := range len(s) {
		k = class.Or(k, class.One(s[i]))
	}
	return in(k)
}

// over is the tree of a kid, and of a sign behind it.
func over(kind int, t []api.Re) []api.Re {
	return append(slices.Clone(t), api.Re{Kind: kind, Kids: [2]int{len(t) - 1, 0}})
}

// pair is the tree of two kids.
func pair(kind int, t, u []api.Re) []api.Re {
	l := slices.Clone(t)
	for _, n := range u {
		switch n.Kind {
		case api.RCat, api.RAlt:
			n.Kids[0] += len(t)
			n.Kids[1] += len(t)
		case api.RStar, api.RPlus, api.ROpt:
			n.Kids[0] += len(t)
		}
		l = append(l, n)
	}
	return append(l, api.Re{Kind: kind, Kids: [2]int{len(t) - 1, len(t) + len(u) - 1}})
}

// left is the tree of several, those on the left first.
func left(kind int, first []api.Re, l ...[]api.Re) []api.Re {
	for _, t := range l {
		first = pair(kind, first, t)
	}
	return first
}

// dull is the class of a point.
func dull() api.Class { return class.Not(class.One('\n')) }

// many is a text of so many nodes, without a |.
func many(nodes int) string {
	if nodes%2 == 0 {
		return "a*" + strings.Repeat("a", nodes/2-1)
	}
	return strings.Repeat("a", nodes/2+1)
}

// from is where the nodes of the tree begin that ends at a place; below 0, if they aren't right.
func from(t []api.Re, at int) int {
	if at < 0 {
		return -1
	}
	n := t[at]
	if n.Kind != api.RSet {
		for _, bits := range n.Set {
			if bits != 0 {
				return -1
			}
		}
	}
	switch n.Kind {
	case api.RNone, api.RSet, api.RBegin, api.REnd:
		if n.Kids[0] == 0 && n.Kids[1] == 0 {
			return at
		}
	case api.RStar, api.RPlus, api.ROpt:
		if n.Kids[0] == at-1 && n.Kids[1] == 0 {
			return from(t, at-1)
		}
	case api.RCat, api.RAlt:
		second := from(t, at-1)
		if n.Kids[1] == at-1 && second > 0 && n.Kids[0] == second-1 {
			return from(t, second-1)
		}
	}
	return -1
}

// wantRight is what Right answers: told from the last node on.
func wantRight(t []api.Re) bool {
	return len(t) >= 1 && len(t) <= 2000 && from(t, len(t)-1) == 0
}

// forest are all trees of some nodes, of few kinds of leaves.
func forest(nodes int) [][]api.Re {
	by := [][][]api.Re{nil, {set("a"), one(api.RNone), one(api.RBegin), set("")}}
	for n := 2; n <= nodes; n++ {
		var l [][]api.Re
		for _, t := range by[n-1] {
			l = append(l, over(api.RStar, t), over(api.ROpt, t))
		}
		for k := 1; k < n-1; k++ {
			for _, t := range by[k] {
				for _, u := range by[n-1-k] {
					l = append(l, pair(api.RCat, t, u), pair(api.RAlt, t, u))
				}
			}
		}
		by = append(by, l)
	}
	return slices.Concat(by...)
}

// stray is a tree that looks stray, of as many nodes at most.
func stray(next func() uint64, nodes int) []api.Re {
	if nodes < 3 {
		switch next() % 6 {
		case 0:
			return one(api.RNone)
		case 1:
			return one(api.RBegin)
		case 2:
			return one(api.REnd)
		case 3:
			return in(dull())
		case 4:
			return in(api.Class{next(), next() & next(), next(), next()})
		}
		return in(class.One(byte(next())))
	}
	switch next() % 5 {
	case 0:
		return over(api.RStar, stray(next, nodes-1))
	case 1:
		return over(api.RPlus, stray(next, nodes-1))
	case 2:
		return over(api.ROpt, stray(next, nodes-1))
	}
	kind := api.RCat
	if next()%3 == 0 {
		kind = api.RAlt
	}
	first := 1 + int(next()%uint64(nodes-2))
	return pair(kind, stray(next, first), stray(next, nodes-1-first))
}

// The chapter's examples.
func TestExamples(t *testing.T) {
	got, e := Read("a|b*")
	want := []api.Re{
		{Kind: api.RSet, Set: class.One('a')},
		{Kind: api.RSet, Set: class.One('b')},
		{Kind: api.RStar, Kids: [2]int{1, 0}},
		{Kind: api.RAlt, Kids: [2]int{0, 2}},
	}
	if !slices.Equal(got, want) || e != api.OK {
		t.Errorf("Read of a|b*: %v %d", got, e)
	}
	if s := Text(got); s != "a|b*" {
		t.Errorf("Text of it: %s", s)
	}
}
