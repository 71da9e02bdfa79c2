package regex

import (
	"slices"
	"testing"

	"dragoman/api"
	"dragoman/class"
)

// P5.1: rows that are right trees.
func TestRight(t *testing.T) {
	a := api.Re{Kind: api.RSet, Set: class.One('a')}
	l := [][]api.Re{
		{a},
		{{Kind: api.RSet}}, // a class without bytes
		{{Kind: api.RSet, Set: class.Not(api.Class{})}},
		{{Kind: api.RNone}},
		{{Kind: api.RBegin}},
		{{Kind: api.REnd}},
		{a, {Kind: api.RStar}},
		{a, {Kind: api.RPlus}},
		{a, {Kind: api.ROpt}},
		{a, {Kind: api.RStar}, {Kind: api.RPlus, Kids: [2]int{1, 0}}},
		{a, a, {Kind: api.RCat, Kids: [2]int{0, 1}}},
		{a, a, {Kind: api.RAlt, Kids: [2]int{0, 1}}},
		{a, a, {Kind: api.RCat, Kids: [2]int{0, 1}}, a, {Kind: api.RAlt, Kids: [2]int{2, 3}}},
		{a, a, a, {Kind: api.RCat, Kids: [2]int{1, 2}}, {Kind: api.RAlt, Kids: [2]int{0, 3}}},
		{a, {Kind: api.RStar}, a, {Kind: api.ROpt, Kids: [2]int{2, 0}}, {Kind: api.RCat, Kids: [2]int{1, 3}}},
	}
	for _, x := range append(l, forest(5)...) {
		if !Right(x) || !wantRight(x) {
			t.Errorf("not right: %v", x)
		}
	}
	if n := len(forest(5)); n < 1500 {
		t.Errorf("only %d trees", n)
	}
}

// P5.1: rows that are none.
func TestRightRefuses(t *testing.T) {
	a := api.Re{Kind: api.RSet, Set: class.One('a')}
	const far = 1 << 62
	for why, l := range map[string][][]api.Re{
		"no node": {nil, {}},
		"a kid in the wrong place": {
			{a, {Kind: api.RStar, Kids: [2]int{1, 0}}},
			{a, {Kind: api.RStar, Kids: [2]int{2, 0}}},
			{a, {Kind: api.RStar, Kids: [2]int{-1, 0}}},
			{a, {Kind: api.RStar, Kids: [2]int{far, 0}}},
			{a, {Kind: api.RStar, Kids: [2]int{-far, 0}}},
			{a, {Kind: api.RStar}, {Kind: api.RStar}},
			{a, a, {Kind: api.RCat, Kids: [2]int{0, 0}}},
			{a, a, {Kind: api.RCat, Kids: [2]int{1, 1}}},
			{a, a, {Kind: api.RCat, Kids: [2]int{1, 0}}},
			{a, a, {Kind: api.RAlt, Kids: [2]int{0, 2}}},
			{a, a, {Kind: api.RAlt, Kids: [2]int{-1, 1}}},
			{a, a, {Kind: api.RAlt, Kids: [2]int{0, far}}},
			{a, {Kind: api.RStar}, a, {Kind: api.RCat, Kids: [2]int{0, 2}}},
			{a, a, a, {Kind: api.RCat, Kids: [2]int{0, 2}}},
			{a, a, a, {Kind: api.RCat, Kids: [2]int{1, 2}}, {Kind: api.RCat, Kids: [2]int{1, 3}}},
		},
		"a kid behind": {
			{{Kind: api.RStar, Kids: [2]int{1, 0}}, a},
			{{Kind: api.RCat, Kids: [2]int{1, 2}}, a, a},
			{a, {Kind: api.RCat, Kids: [2]int{0, 2}}, a},
			{{Kind: api.RStar}},
			{{Kind: api.RCat}},
			{a, {Kind: api.RCat}},
			{a, {Kind: api.RAlt, Kids: [2]int{0, 1}}},
			{a, {Kind: api.RAlt, Kids: [2]int{-1, 0}}},
		},
		"kids where none may be": {
			{{Kind: api.RSet, Kids: [2]int{1, 0}}},
			{{Kind: api.RSet, Kids: [2]int{0, 1}}},
			{{Kind: api.RNone, Kids: [2]int{-1, 0}}},
			{a, {Kind: api.RBegin}, {Kind: api.RCat, Kids: [2]int{0, 1}}, {Kind: api.REnd, Kids: [2]int{2, 0}}},
			{a, {Kind: api.REnd, Kids: [2]int{0, 1}}, {Kind: api.RCat, Kids: [2]int{0, 1}}},
			{a, a, {Kind: api.RCat, Kids: [2]int{0, 1}}, {Kind: api.RStar, Kids: [2]int{2, 1}}},
			{a, {Kind: api.RPlus, Kids: [2]int{0, 1}}},
			{a, {Kind: api.ROpt, Kids: [2]int{0, -1}}},
		},
		"a kind that is none": {
			{{Kind: 9}}, {{Kind: -1}}, {{Kind: far}}, {{Kind: -far}},
			{a, {Kind: 9}}, {a, a, {Kind: 9, Kids: [2]int{0, 1}}}, {{Kind: 9}, {Kind: api.RStar}},
		},
		"a Set where none may be": {
			{{Kind: api.RNone, Set: class.One('a')}},
			{{Kind: api.RBegin, Set: class.One(0)}},
			{{Kind: api.REnd, Set: class.One(255)}},
			{a, {Kind: api.RStar, Set: class.One(64)}},
			{a, {Kind: api.RPlus, Set: class.One(128)}},
			{a, {Kind: api.ROpt, Set: class.One(192)}},
			{a, a, {Kind: api.RCat, Set: class.One('a'), Kids: [2]int{0, 1}}},
			{a, a, {Kind: api.RAlt, Set: class.Not(api.Class{}), Kids: [2]int{0, 1}}},
		},
		"more than one tree": {
			{a, a},
			{a, {Kind: api.RStar}, a},
			{a, a, a, {Kind: api.RCat, Kids: [2]int{1, 2}}},
			{a, a, {Kind: api.RCat, Kids: [2]int{0, 1}}, a},
			{a, a, {Kind: api.RStar, Kids: [2]int{1, 0}}},
		},
	} {
		for _, x := range l {
			if Right(x) || wantRight(x) {
				t.Errorf("%s: right: %v", why, x)
			}
		}
	}
}

// P5.1: as many nodes as may be, and one more.
func TestRightBig(t *testing.T) {
	stars := set("a")
	for len(stars) < 2000 {
		stars = over(api.RStar, stars)
	}
	cats := set("a")
	for len(cats) < 1999 {
		cats = append(cats, set("a")[0], api.Re{Kind: api.RCat, Kids: [2]int{len(cats) - 1, len(cats)}})
	}
	for _, x := range [][]api.Re{stars, cats, over(api.ROpt, cats)} {
		if !Right(x) {
			t.Errorf("%d nodes: not right", len(x))
		}
	}
	for _, x := range [][]api.Re{over(api.RStar, stars), over(api.ROpt, over(api.ROpt, cats)), pair(api.RCat, cats, set("a")), pair(api.RAlt, stars, stars), make([]api.Re, 2001), make([]api.Re, 100000)} {
		if Right(x) {
			t.Errorf("%d nodes: right", len(x))
		}
	}
}

// P5.1: all short rows, whose kids are near.
func TestRightAll(t *testing.T) {
	var nodes []api.Re
	for kind := -1; kind <= 9; kind++ {
		for a := -1; a <= 2; a++ {
			for b := -1; b <= 2; b++ {
				nodes = append(nodes, api.Re{Kind: kind, Kids: [2]int{a, b}})
			}
		}
	}
	right := 0
	held := func(x []api.Re) {
		is := Right(x)
		if is != wantRight(x) {
			t.Fatalf("Right(%v): %t", x, is)
		}
		if is {
			right++
		}
	}
	for i, a := range nodes {
		held([]api.Re{a})
		for _, b := range nodes {
			held([]api.Re{a, b})
			for k := i % 7; k < len(nodes); k += 7 {
				held([]api.Re{a, b, nodes[k]})
			}
		}
	}
	if right < 20 {
		t.Errorf("only %d of them are right", right)
	}
}

// P5.1: trees that look stray, as they are, and with one thing changed.
func TestRightStray(t *testing.T) {
	next := row(8)
	wrong := 0
	for i := range 3000 {
		x := stray(next, 1+i%30)
		if !Right(x) {
			t.Fatalf("not right: %v", x)
		}
		was := slices.Clone(x)
		n := &x[next()%uint64(len(x))]
		switch next() % 4 {
		case 0:
			n.Kind = int(next()%11) - 1
		case 1:
			n.Kids[next()%2] += int(next()%5) - 2
		case 2:
			n.Set[next()%4] ^= 1 << (next() % 64)
		case 3:
			x = slices.Delete(x, 0, 1)
		}
		changed := slices.Clone(x)
		is := Right(x)
		if is != wantRight(x) {
			t.Fatalf("Right(%v): %t, changed from %v", x, is, was)
		}
		if !is {
			wrong++
		}
		// R3: what is handed in is as it was.
		if !slices.Equal(x, changed) {
			t.Fatalf("Right wrote into %v: %v", changed, x)
		}
	}
	if wrong < 1000 {
		t.Errorf("only %d of them are wrong", wrong)
	}
}
