package arith

import (
	"slices"
	"strings"
	"testing"

	"dragoman/api"
)

// rows are right rows: of none, of one, of some, of many.
func rows() [][]api.Var {
	l := [][]api.Var{
		nil,
		{},
		{{Name: "b", Value: "2"}},
		{{Name: "b", Value: ""}, {Name: "d", Value: "4"}},
		{{Name: "B", Value: "1"}, {Name: "_", Value: "x y\n"}, {Name: "a", Value: "\x00\xff"}},
		{{Name: "a", Value: "1"}, {Name: "a0", Value: "2"}, {Name: "aA", Value: "3"}, {Name: "a_", Value: "4"}, {Name: "aa", Value: "5"}},
		some(),
	}
	var many []api.Var
	for i := range 1000 {
		many = append(many, api.Var{Name: "v" + strings.Repeat("z", i), Value: strings.Repeat("9", i%7)})
	}
	return append(l, many)
}

// names are some that stand in these rows, ahead of them, between, and behind.
func names() []string {
	return []string{"0", "A", "B", "Ba", "Z", "_", "_0", "__", "a", "a0", "a00", "aA", "a_", "aa", "ab", "b", "b_", "c", "d", "da", "e", "empty", "least", "most", "v", "vy", "vz", "vzz", "vzy", "w", "z", "zz", "v" + strings.Repeat("z", 999), "v" + strings.Repeat("z", 1000)}
}

// P10.2: a variable's value, or that there is none.
func TestFind(t *testing.T) {
	for _, vars := range rows() {
		for _, name := range names() {
			want, stands := "", false
			for _, v := range vars {
				if v.Name == name {
					want, stands = v.Value, true
				}
			}
			if value, is := Find(vars, name); value != want || is != stands {
				t.Errorf("Find(%.200v, %.40q): %q, %t", vars, name, value, is)
			}
		}
		for _, v := range vars {
			if value, is := Find(vars, v.Name); value != v.Value || !is {
				t.Errorf("Find(%.200v, %.40q): %q, %t", vars, v.Name, value, is)
			}
		}
	}
	if value, is := Find([]api.Var{{Name: "e"}}, "e"); value != "" || !is {
		t.Error("one without bytes is there")
	}
	if value, is := Find(some(), ""); value != "" || is {
		t.Error("none is called so")
	}
}

// P10.2: a name ahead of all, between two, behind all, one that is there, in a row of none.
func TestSet(t *testing.T) {
	v := func(pairs ...string) []api.Var {
		var l []api.Var
		for i := 0; i < len(pairs); i += 2 {
			l = append(l, api.Var{Name: pairs[i], Value: pairs[i+1]})
		}
		return l
	}
	for _, x := range []struct {
		vars        []api.Var
		name, value string
		want        []api.Var
	}{
		{nil, "a", "1", v("a", "1")},
		{[]api.Var{}, "a", "", v("a", "")},
		{v("b", "2"), "a", "1", v("a", "1", "b", "2")},
		{v("b", "2"), "b", "1", v("b", "1")},
		{v("b", "2"), "b", "", v("b", "")},
		{v("b", "2"), "c", "1", v("b", "2", "c", "1")},
		{v("b", "2", "d", "4"), "a", "x", v("a", "x", "b", "2", "d", "4")},
		{v("b", "2", "d", "4"), "b", "x", v("b", "x", "d", "4")},
		{v("b", "2", "d", "4"), "c", "x", v("b", "2", "c", "x", "d", "4")},
		{v("b", "2", "d", "4"), "d", "x", v("b", "2", "d", "x")},
		{v("b", "2", "d", "4"), "e", "x", v("b", "2", "d", "4", "e", "x")},
		{v("B", "2", "b", "4"), "_", "x", v("B", "2", "_", "x", "b", "4")},
		{v("a", "2", "b", "4"), "aa", "x", v("a", "2", "aa", "x", "b", "4")},
		{v("aa", "2", "b", "4"), "a", "x", v("a", "x", "aa", "2", "b", "4")},
		{v("a1", "2", "a_", "4"), "aA", " \n\x00\xff", v("a1", "2", "aA", " \n\x00\xff", "a_", "4")},
		{v("a10", "2", "a9", "4"), "a2", "x", v("a10", "2", "a2", "x", "a9", "4")},
		{v("a", "1", "b", "2", "c", "3"), "b", "2", v("a", "1", "b", "2", "c", "3")},
	} {
		before := slices.Clone(x.vars)
		if got := Set(x.vars, x.name, x.value); !slices.Equal(got, x.want) {
			t.Errorf("Set(%v, %q, %q): %v, not %v", x.vars, x.name, x.value, got, x.want)
		}
		if !slices.Equal(before, x.vars) {
			t.Errorf("%v was changed: %v", before, x.vars)
		}
	}
}

// P10.2: the row that is handed in stays, also where its memory goes on behind it; so does what came out.
func TestSetKeeps(t *testing.T) {
	for _, name := range []string{"a", "b", "c", "d", "e"} {
		memory := []api.Var{{Name: "b", Value: "2"}, {Name: "d", Value: "4"}, {Name: "x", Value: "5"}, {Name: "y", Value: "6"}}
		before := slices.Clone(memory)
		vars := memory[:2]
		first := Set(vars, name, "first")
		told := slices.Clone(first)
		second := Set(vars, name, "second")
		third := Set(first, name, "third")
		fourth := Set(first, "f", "fourth")
		fifth := Set(first, "g", "fifth")
		if !slices.Equal(memory, before) || !slices.Equal(first, told) {
			t.Errorf("%s: %v and %v", name, memory, first)
		}
		for _, x := range []struct {
			vars        []api.Var
			name, value string
		}{{second, name, "second"}, {third, name, "third"}, {fourth, "f", "fourth"}, {fifth, "g", "fifth"}, {fifth, name, "first"}} {
			if value, is := Find(x.vars, x.name); value != x.value || !is {
				t.Errorf("%v: %s is %q", x.vars, x.name, value)
			}
		}
		for i := range vars {
			vars[i].Value = "stray"
		}
		for i := range first {
			first[i].Value = "other"
		}
		if fourth[0].Value == "other" || memory[0].Value != "stray" || memory[2] != before[2] {
			t.Errorf("%s: memory is shared", name)
		}
	}
}

// P10.2: names that rise, and are such.
func TestRight(t *testing.T) {
	named := func(names ...string) []api.Var {
		l := make([]api.Var, len(names))
		for i, name := range names {
			l[i] = api.Var{Name: name, Value: "x"}
		}
		return l
	}
	for _, l := range rows() {
		if !Right(l) {
			t.Errorf("Right(%.200v): no", l)
		}
	}
	for _, x := range []struct {
		names []string
		want  bool
	}{
		{nil, true},
		{[]string{"a"}, true},
		{[]string{"a", "b", "c"}, true},
		{[]string{"A", "Z", "_", "a", "z"}, true},
		{[]string{"a", "a0", "aA", "a_", "aa"}, true},
		{[]string{"a10", "a9"}, true},
		{[]string{"B", "a"}, true},
		{[]string{"b", "a"}, false},
		{[]string{"a", "B"}, false},
		{[]string{"a", "_"}, false},
		{[]string{"aa", "a"}, false},
		{[]string{"a9", "a10"}, false},
		{[]string{"a", "c", "b"}, false},
		{[]string{"b", "a", "c"}, false},
		{[]string{"a", "b", "c", "e", "d"}, false},
		{[]string{"c", "b", "a"}, false},
		{[]string{"a", "a"}, false},
		{[]string{"a", "b", "b"}, false},
		{[]string{"a", "a", "b"}, false},
		{[]string{"a", "b", "a"}, false},
		{[]string{""}, false},
		{[]string{"", "a"}, false},
		{[]string{"a", ""}, false},
		{[]string{"1"}, false},
		{[]string{"1", "a"}, false},
		{[]string{"9a", "a"}, false},
		{[]string{"a", "b-"}, false},
		{[]string{"a", "b c", "d"}, false},
		{[]string{"a b", "c"}, false},
		{[]string{"a", "é"}, false},
		{[]string{"a", "b\x00"}, false},
		{[]string{"\x00"}, false},
		{[]string{"a\n"}, false},
		{[]string{"$a"}, false},
	} {
		if got := Right(named(x.names...)); got != x.want {
			t.Errorf("Right of %q: %t", x.names, got)
		}
	}
}

// P10.3: what was set is found, and all others are as they were; what is right stays so.
func TestSetIsFound(t *testing.T) {
	for _, vars := range rows() {
		for _, name := range append(names(), "") {
			for _, value := range []string{"", "7", "x y", "\x00\n\xff"} {
				_, stood := Find(vars, name)
				got := Set(vars, name, value)
				if found, is := Find(got, name); found != value || !is {
					t.Fatalf("%.40q in %.200v: %q, %t", name, vars, found, is)
				}
				more := 1
				if stood {
					more = 0
				}
				if len(got) != len(vars)+more {
					t.Fatalf("%.40q in %.200v: %d of them", name, vars, len(got))
				}
				// A row with what is no name is none that is right.
				if is := name != "" && name != "0"; Right(got) != is {
					t.Fatalf("%.40q in %.200v: right: %t", name, vars, !is)
				}
				for _, other := range append(names(), "") {
					was, stood := Find(vars, other)
					if now, stands := Find(got, other); other != name && (now != was || stands != stood) {
						t.Fatalf("%.40q in %.200v: %.40q was %q, is %q", name, vars, other, was, now)
					}
				}
			}
		}
	}
}

// P10.3: many names, set one behind the other in stray order, some of them twice.
func TestSetMany(t *testing.T) {
	next := row(5)
	var vars []api.Var
	want := map[string]string{}
	for range 2000 {
		name := string(rune('a'+next()%26)) + string(rune('A'+next()%26))
		value := strings.Repeat("v", int(next()%9))
		vars = Set(vars, name, value)
		want[name] = value
	}
	if !Right(vars) || len(vars) != len(want) {
		t.Fatalf("%d, not %d: %v", len(vars), len(want), vars)
	}
	for _, v := range vars {
		if value, stands := want[v.Name]; value != v.Value || !stands {
			t.Errorf("%s: %q", v.Name, v.Value)
		}
	}
}
