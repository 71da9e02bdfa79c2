package regex

import (
	"slices"
	"strings"
	"testing"

	"dragoman/api"
	"dragoman/class"
)

// P5.3: two trees as one.
func TestJoin(t *testing.T) {
	trees := forest(4)
	for i, x := range trees {
		for _, y := range trees[i%5:] {
			for _, kind := range []int{api.RCat, api.RAlt} {
				got, e := Join(x, y, kind)
				if want := pair(kind, x, y); !slices.Equal(got, want) || e != api.OK {
					t.Fatalf("Join(%v, %v, %d): %v %d, not %v", x, y, kind, got, e, want)
				}
				if !Right(got) {
					t.Fatalf("Join(%v, %v, %d) isn't right: %v", x, y, kind, got)
				}
			}
		}
	}
	read := func(s string) []api.Re {
		x, e := Read(s)
		if e != api.OK {
			t.Errorf("Read(%q): %d", s, e)
		}
		return x
	}
	for _, x := range []struct {
		a, b string
		kind int
		s    string
	}{
		{"a", "b", api.RCat, "ab"},
		{"a", "b", api.RAlt, "a|b"},
		{"ab", "c+", api.RAlt, "ab|c+"},
		{"ab", "c+", api.RCat, "abc+"},
		{"c+", "ab", api.RCat, "c+(ab)"},
		{"a|b", "c|d", api.RAlt, "a|b|(c|d)"},
		{"a|b", "c|d", api.RCat, "(a|b)(c|d)"},
		{"", "", api.RCat, "()()"},
		{"", "", api.RAlt, "()|()"},
		{"a", "", api.RAlt, "a|()"},
		{"", "a", api.RCat, "()a"},
		{"^", "$", api.RCat, "^$"},
		{".", "[^a]*", api.RAlt, ".|[\\x00-\\x09\\x0b-\\x60b-\\xff]*"},
	} {
		got, e := Join(read(x.a), read(x.b), x.kind)
		if s := Text(got); s != x.s || e != api.OK {
			t.Errorf("Join of %s and %s by %d: %s %d, not %s", x.a, x.b, x.kind, s, e, x.s)
		}
	}
}

// P5.3: by a kind that joins no two.
func TestJoinKinds(t *testing.T) {
	big := left(api.RCat, set("a"), slices.Repeat([][]api.Re{set("a")}, 999)...)
	for _, kind := range []int{api.RNone, api.RSet, api.RStar, api.RPlus, api.ROpt, api.RBegin, api.REnd, 9, -1, 1 << 62, -1 << 62} {
		// ErrArg is named ahead of ErrBig.
		for _, x := range [][]api.Re{set("a"), big} {
			if got, e := Join(x, x, kind); len(got) != 0 || e != api.ErrArg {
				t.Errorf("Join by %d of %d nodes: %v %d", kind, len(x), got, e)
			}
		}
	}
}

// P5.3: as many nodes as may be, and one more.
func TestJoinBig(t *testing.T) {
	sized := func(nodes int) []api.Re {
		x, e := Read(many(nodes))
		if len(x) != nodes || e != api.OK {
			t.Fatalf("%d nodes, not %d: %d", len(x), nodes, e)
		}
		return x
	}
	for _, x := range []struct {
		a, b int
		e    api.Errno
	}{
		{1, 1998, api.OK}, {1998, 1, api.OK}, {999, 1000, api.OK}, {1000, 999, api.OK}, {1, 1997, api.OK},
		{1, 1999, api.ErrBig}, {1999, 1, api.ErrBig}, {1000, 1000, api.ErrBig}, {999, 1001, api.ErrBig}, {2000, 1, api.ErrBig}, {1, 2000, api.ErrBig}, {2000, 2000, api.ErrBig},
	} {
		for _, kind := range []int{api.RCat, api.RAlt} {
			a, b := sized(x.a), sized(x.b)
			var want []api.Re
			if x.e == api.OK {
				want = pair(kind, a, b)
			}
			if got, e := Join(a, b, kind); !slices.Equal(got, want) || e != x.e || x.e == api.OK && !Right(got) {
				t.Errorf("Join of %d nodes and %d by %d: %d nodes, %d", x.a, x.b, kind, len(got), e)
			}
		}
	}
}

// What is no tree isn't joined: there is nothing that a kid could be.
func TestJoinNoTree(t *testing.T) {
	a := set("a")
	for _, x := range [][]api.Re{nil, {}, {{Kind: 9}}, {{Kind: api.RStar}}, {{Kind: api.RCat, Kids: [2]int{-1, 1 << 62}}}, {a[0], a[0]}} {
		for _, kind := range []int{api.RCat, api.RAlt} {
			for _, two := range [][2][]api.Re{{x, a}, {a, x}, {x, x}} {
				if got, e := Join(two[0], two[1], kind); len(got) != 0 || e != api.ErrArg {
					t.Errorf("Join(%v, %v, %d): %v %d", two[0], two[1], kind, got, e)
				}
			}
		}
		if got, e := Join(x, a, api.RStar); len(got) != 0 || e != api.ErrArg {
			t.Errorf("Join(%v, %v, RStar): %v %d", x, a, got, e)
		}
	}
	// There are more nodes than may be, whatever they are.
	if got, e := Join(make([]api.Re, 2001), a, api.RCat); len(got) != 0 || e != api.ErrBig {
		t.Errorf("Join of 2001 nodes: %d nodes, %d", len(got), e)
	}
}

// R3: what is handed in is as it was, and the answer is new memory.
func TestJoinNew(t *testing.T) {
	row := make([]api.Re, 0, 20)
	row = append(row, pair(api.RCat, set("a"), over(api.RStar, set("b")))...)
	behind := row[len(row):cap(row)]
	was := slices.Clone(row)
	got, _ := Join(row, row, api.RAlt)
	want := pair(api.RAlt, was, was)
	if !slices.Equal(row, was) || !slices.Equal(behind, make([]api.Re, len(behind))) {
		t.Errorf("Join wrote into %v: %v", was, row[:cap(row)])
	}
	row[0], row[1] = api.Re{}, api.Re{}
	if !slices.Equal(got, want) {
		t.Errorf("Join's answer changed: %v, not %v", got, want)
	}
	got[0], got[4] = api.Re{Kind: api.REnd}, api.Re{Kind: api.REnd}
	if !slices.Equal(row[2:], was[2:]) || row[0] != (api.Re{}) {
		t.Errorf("a change of Join's answer changed %v", row)
	}
}

// P5.3: the bytes of a text, one behind the other.
func TestLit(t *testing.T) {
	for n := range 256 {
		c := string([]byte{byte(n)})
		if got, e := Lit(c); !slices.Equal(got, set(c)) || e != api.OK {
			t.Errorf("Lit(%q): %v %d", c, got, e)
		}
		want := left(api.RCat, set("a"), set(c), set(c))
		if got, e := Lit("a" + c + c); !slices.Equal(got, want) || e != api.OK {
			t.Errorf("Lit(%q): %v %d", "a"+c+c, got, e)
		}
	}
	for s, text := range map[string]string{
		"": "()", "a": "a", "ab": "ab", "abc": "abc", "a b": "a b", "a.b*": `a\x2eb\x2a`, "(a|b)": `\x28a\x7cb\x29`, "[a-c]": `\x5ba\x2dc\x5d`, "^a$": `\x5ea\x24`, "a\nb": `a\x0ab`, `\x41`: `\x5cx41`, "é": `\xc3\xa9`, "\x00\xff": `\x00\xff`, "()": `\x28\x29`,
	} {
		got, e := Lit(s)
		if !Right(got) || Text(got) != text || e != api.OK {
			t.Errorf("Lit(%q): %v %d", s, got, e)
		}
		if again, e := Read(text); !slices.Equal(again, got) || e != api.OK {
			t.Errorf("Read(%q): %v %d, not %v", text, again, e, got)
		}
	}
	none, e := Lit("")
	if !slices.Equal(none, []api.Re{{Kind: api.RNone}}) || e != api.OK {
		t.Errorf("Lit of nothing: %v %d", none, e)
	}
}

// P5.3: of many bytes, and of more than may be.
func TestLitBig(t *testing.T) {
	next := row(10)
	for _, long := range []int{2, 3, 10, 100, 255, 256, 999, 1000} {
		s := make([]byte, long)
		var want []api.Re
		for i := range s {
			s[i] = byte(next())
			want = append(want, api.Re{Kind: api.RSet, Set: class.One(s[i])})
			if i > 0 {
				want = append(want, api.Re{Kind: api.RCat, Kids: [2]int{len(want) - 2, len(want) - 1}})
			}
		}
		if got, e := Lit(string(s)); !slices.Equal(got, want) || e != api.OK || !Right(got) {
			t.Errorf("Lit of %d bytes: %d nodes, %d", long, len(got), e)
		}
	}
	for _, long := range []int{1001, 1002, 2000, 2001, 1000000} {
		if got, e := Lit(strings.Repeat("a", long)); len(got) != 0 || e != api.ErrBig {
			t.Errorf("Lit of %d bytes: %d nodes, %d", long, len(got), e)
		}
	}
}
