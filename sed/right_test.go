package sed

import (
	"slices"
	"strings"
	"testing"

	"dragoman/api"
	"dragoman/regex"
)

// with is a command with something changed.
func with(c api.SedCmd, change func(*api.SedCmd)) api.SedCmd {
	change(&c)
	return c
}

// wrongAddrs are addresses that are none.
func wrongAddrs() []api.Addr {
	a := tree("a")
	return []api.Addr{
		{N: 1}, {N: -1}, {Re: a}, {Re: make([]api.Re, 1)},
		{Kind: api.ALine}, line(-1), line(1000000001), line(1 << 62), line(-1 << 62), {Kind: api.ALine, N: 1, Re: a}, {Kind: api.ALine, Re: a},
		{Kind: api.ALast, N: 1}, {Kind: api.ALast, N: -1}, {Kind: api.ALast, Re: a},
		{Kind: api.ARe}, {Kind: api.ARe, Re: []api.Re{}}, {Kind: api.ARe, N: 1, Re: a}, {Kind: api.ARe, Re: []api.Re{a[0], a[0]}}, {Kind: api.ARe, Re: []api.Re{{Kind: api.RStar}}}, {Kind: api.ARe, Re: []api.Re{{Kind: 9}}}, {Kind: api.ARe, Re: slices.Repeat(a, 2001)},
		{Kind: 4}, {Kind: -1}, {Kind: 1 << 62}, {Kind: 4, N: 1}, {Kind: 4, Re: a},
	}
}

// wrongCmds are commands that are wrong, with labels x and y.
func wrongCmds() []api.SedCmd {
	ab := sub("a", "b")
	var l []api.SedCmd
	add := func(c ...api.SedCmd) { l = append(l, c...) }
	for _, a := range wrongAddrs() {
		for _, op := range "ptb" {
			c := api.SedCmd{Op: byte(op)}
			add(on(c, a), on(c, line(1), a), on(c, a, line(1)), not(on(c, a)))
		}
		add(on(ab, a), on(ab, last(), a), on(to(':', "z"), a), on(to('b', "x"), a))
	}
	// B without A.
	for _, b := range []api.Addr{line(1), last(), within("a")} {
		add(api.SedCmd{Op: 'p', B: b}, api.SedCmd{Op: 'b', B: b}, with(ab, func(c *api.SedCmd) { c.B = b }), with(to(':', "z"), func(c *api.SedCmd) { c.B = b }))
		add(on(to(':', "z"), b), on(to(':', "z"), b, b), not(on(to(':', "z"), b)))
	}
	// What only s may have, and what only b, t and : may have.
	for _, op := range "pdqnhHgGxbt:" {
		c := api.SedCmd{Op: byte(op)}
		if op == ':' {
			c.Label = "z"
		}
		add(with(c, func(c *api.SedCmd) { c.Re = ab.Re }), with(c, func(c *api.SedCmd) { c.By = ab.By }), with(c, func(c *api.SedCmd) { c.By = []string{""} }), flagged(c, true, false), flagged(c, false, true), flagged(c, true, true), with(ab, func(c *api.SedCmd) { c.Op = byte(op) }))
		if strings.IndexByte("bt:", byte(op)) < 0 {
			add(to(byte(op), "x"), to(byte(op), "1"), to(byte(op), " "), on(to(byte(op), "x"), line(1)))
		}
	}
	// s.
	for _, re := range [][]api.Re{nil, {}, {{Kind: api.RStar}}, {{Kind: 9}}, {ab.Re[0], ab.Re[0]}, slices.Repeat(ab.Re, 2001)} {
		add(with(ab, func(c *api.SedCmd) { c.Re = re }), with(ab, func(c *api.SedCmd) { c.Re, c.All = re, true }))
	}
	add(with(ab, func(c *api.SedCmd) { c.By = nil }), with(ab, func(c *api.SedCmd) { c.By = []string{} }), with(ab, func(c *api.SedCmd) { c.Label = "x" }), with(ab, func(c *api.SedCmd) { c.Label = " " }), api.SedCmd{Op: 's'}, flagged(api.SedCmd{Op: 's'}, true, true))
	// Labels that are no names, missing ones, and one that stands twice.
	for _, label := range []string{"1", "1x", "-", "x y", " x", "x ", "x\n", "\n", " ", "é", "x.", "\x00", "x;"} {
		add(to(':', label), to('b', label), to('t', label), on(to('b', label), last()))
	}
	add(to(':', ""), not(to(':', "z")), to(':', "x"), to(':', "y"), to('b', "z"), to('t', "z"), to('b', "X"), to('t', "xx"), on(not(to('b', "z")), line(1)), to('b', ":x"))
	// Letters.
	for op := range 256 {
		if strings.IndexByte("pdqnhHgGxsbt:", byte(op)) < 0 {
			c := api.SedCmd{Op: byte(op)}
			add(c, on(c, line(1)), with(ab, func(c *api.SedCmd) { c.Op = byte(op) }), to(byte(op), "x"))
		}
	}
	return l
}

// wrongScripts are scripts that aren't right.
func wrongScripts() [][]api.SedCmd {
	x, y := to(':', "x"), to(':', "y")
	var l [][]api.SedCmd
	for _, c := range wrongCmds() {
		l = append(l, []api.SedCmd{c, x, y}, []api.SedCmd{x, c, y}, []api.SedCmd{x, y, {Op: 'p'}, c})
	}
	return l
}

// P8.2: scripts that are right, by each word of the section.
func TestRight(t *testing.T) {
	ab := sub("a", "b")
	cmds := []api.SedCmd{ab, flagged(ab, true, false), flagged(ab, false, true), flagged(ab, true, true), sub("", ""), sub("a|b*", "", "&", "\n/\\", ""), sub(`[^\x00-\xff]`, ""), to('b', ""), to('t', ""), to('b', "x"), to('t', "y"), to(':', "z"), to(':', "_Z09")}
	cmds = append(cmds, plainly("pdqnhHgGx")...)
	addrs := [][]api.Addr{{}, {line(1)}, {line(1000000000)}, {last()}, {within("a")}, {within("")}, {line(1), line(1)}, {line(5), line(2)}, {last(), line(1)}, {within("a"), within("b|c")}, {line(1), last()}}
	for _, c := range cmds {
		for _, a := range addrs {
			for _, turned := range []bool{false, true} {
				d := on(c, a...)
				d.Not = turned
				want := c.Op != ':' || len(a) == 0 && !turned
				l := []api.SedCmd{to(':', "x"), d, to(':', "y")}
				if Right(l) != want {
					t.Errorf("Right(%v): %v", l, !want)
				}
				// Lists without elements are none.
				for i := range l {
					for _, re := range []*[]api.Re{&l[i].Re, &l[i].A.Re, &l[i].B.Re} {
						if *re == nil {
							*re = []api.Re{}
						}
					}
					if l[i].By == nil {
						l[i].By = []string{}
					}
				}
				if Right(l) != want {
					t.Errorf("Right(%v), with lists without elements: %v", l, !want)
				}
				if !want {
					continue
				}
				if again, e := Read(Text(l)); !same(again, l) || e != api.OK {
					t.Errorf("%v, told and read again: %v %d", l, again, e)
				}
			}
		}
	}
	if !Right(nil) || !Right([]api.SedCmd{}) || !Right([]api.SedCmd{to(':', "x"), to(':', "y")}) {
		t.Error("what is plainly right isn't")
	}
}

// P8.2: scripts that break one word of the section.
func TestRightNot(t *testing.T) {
	for _, l := range wrongScripts() {
		if Right(l) {
			t.Errorf("Right(%v)", l)
		}
	}
	for _, c := range wrongCmds() {
		if c.Op != ':' && Right([]api.SedCmd{c}) {
			t.Errorf("Right(%v)", c)
		}
	}
}

// P8.2: labels: each : once, and each one that is gone on from there.
func TestRightLabels(t *testing.T) {
	pieces := []api.SedCmd{to(':', "a"), to(':', "b"), to('b', "a"), to('t', "b"), to('b', ""), {Op: 'p'}}
	var all [][]api.SedCmd
	all = append(all, nil)
	for at := 0; at < len(all); at++ {
		if len(all[at]) < 5 {
			for _, c := range pieces {
				all = append(all, append(slices.Clone(all[at]), c))
			}
		}
	}
	many := map[bool]int{}
	for _, l := range all {
		stands, named := [2]int{}, [2]bool{}
		for _, c := range l {
			if c.Label != "" {
				at := c.Label[0] - 'a'
				if c.Op == ':' {
					stands[at]++
				} else {
					named[at] = true
				}
			}
		}
		want := stands[0] < 2 && stands[1] < 2 && (stands[0] == 1 || !named[0]) && (stands[1] == 1 || !named[1])
		many[want]++
		if Right(l) != want {
			t.Fatalf("Right(%v): %v", l, !want)
		}
		wantE := api.OK
		if !want {
			wantE = api.ErrName
		}
		if _, e := Read(Text(l)); e != wantE {
			t.Fatalf("Read(%q): %d, not %d", Text(l), e, wantE)
		}
	}
	if many[true] < 500 || many[false] < 500 {
		t.Error(many)
	}
}

// P8.2: as many commands as may be, as many nodes, and one more.
func TestRightMost(t *testing.T) {
	for _, n := range []int{0, 1, 1999, 2000, 2001, 4000, 100000} {
		if Right(plainly(strings.Repeat("p", n))) != (n <= 2000) {
			t.Errorf("Right of %d commands: %v", n, n > 2000)
		}
	}
	last := plainly(strings.Repeat("p", 2000))
	last[1999].Label = "x"
	if Right(last) {
		t.Error("the last of 2000 commands is wrong")
	}
	// Commands and addresses by themselves have as many nodes as may be.
	most, e := regex.Read(strings.Repeat("a*", 667))
	if len(most) != 2000 || e != api.OK {
		t.Fatal(len(most), e)
	}
	a := api.Addr{Kind: api.ARe, Re: most}
	c := api.SedCmd{Op: 's', A: a, B: a, Re: most, By: []string{""}}
	if !Right([]api.SedCmd{c, c, c}) {
		t.Error("three times 2000 nodes a command aren't right")
	}
	if Right([]api.SedCmd{on(c, api.Addr{Kind: api.ARe, Re: append(slices.Clone(most), most[0])})}) {
		t.Error("2001 nodes are right")
	}
}

// R3: what is handed in is as it was, and nothing is kept.
func TestRightAgain(t *testing.T) {
	next := row(83)
	for range 300 {
		l := strayScript(next, 6)
		m := strayScript(next, 6)
		kept := make([]api.SedCmd, len(l))
		for i, c := range l {
			c.A.Re, c.B.Re, c.Re, c.By = slices.Clone(c.A.Re), slices.Clone(c.B.Re), slices.Clone(c.Re), slices.Clone(c.By)
			kept[i] = c
		}
		s, u := Text(l), Text(m)
		at, is := Jump(l, "b_2")
		for range 2 {
			if !Right(l) || !Right(m) || Text(l) != s || Text(m) != u {
				t.Fatalf("%v and %v: not as at first", l, m)
			}
			if Right(append(slices.Clone(l), to(':', "a"))) {
				t.Fatal("a label stands twice")
			}
			if again, was := Jump(l, "b_2"); again != at || was != is || !is || l[at].Op != ':' {
				t.Fatalf("Jump(%v): %d %v, then %d %v", l, at, is, again, was)
			}
		}
		if !same(l, kept) {
			t.Fatalf("%v was %v", l, kept)
		}
	}
}
