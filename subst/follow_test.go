package subst

import (
	"slices"
	"strings"
	"testing"

	"dragoman/api"
)

// holdTold holds that what was told is read as it was.
func holdTold(t *testing.T, l []string) {
	t.Helper()
	s := Text(l)
	if got, e := Read(s); !slices.Equal(got, l) || e != api.OK {
		t.Fatalf("Read(%.100q): %.100q %d, not %.100q", s, got, e, l)
	}
}

// P7.3: what was told is read as it was.
func TestToldIsRead(t *testing.T) {
	of := texts("a&\\", 2)
	for _, x := range of {
		holdTold(t, []string{x})
		for _, y := range of {
			holdTold(t, []string{x, y})
			for _, z := range of {
				holdTold(t, []string{x, y, z})
			}
		}
	}
	for c := range 256 {
		s := string([]byte{byte(c)})
		holdTold(t, []string{s})
		holdTold(t, []string{s, "", s + s})
		holdTold(t, []string{"x", s + "41", "x" + s})
		holdTold(t, []string{`\` + s, s + "&"})
	}
	next := row(21)
	for range 5000 {
		holdTold(t, strayRow(next, 9))
	}
}

// P7.3: what was read in another way is told, and read again.
func TestReadIsTold(t *testing.T) {
	for _, s := range texts(`&\x26a-`, 5) {
		if l, e := Read(s); e == api.OK {
			holdTold(t, l)
		}
	}
}

// P7.3: long rows, and long texts.
func TestLongTold(t *testing.T) {
	const long = 100000
	places := strings.Repeat("&", long)
	l, e := Read(places)
	if len(l) != long+1 || e != api.OK || strings.Join(l, "") != "" {
		t.Errorf("Read of %d places: %d texts, %d", long, len(l), e)
	}
	if s := Text(l); s != places {
		t.Errorf("Text of %d places: %d bytes", long, len(s))
	}
	if s := Put(l, "xy"); s != strings.Repeat("xy", long) {
		t.Errorf("Put at %d places: %d bytes", long, len(s))
	}
	bytes := strings.Repeat(allBytes(), long/256)
	holdTold(t, []string{bytes})
	holdTold(t, []string{"", bytes, bytes, ""})
	for _, wrong := range []string{"/", "\n", `\`, `\q`, `\x0`} {
		if got, e := Read(places + bytes[:10] + "&" + wrong); got != nil || e != api.ErrForm {
			t.Errorf("Read of a long text with %q at the end: %d texts, %d", wrong, len(got), e)
		}
	}
	if got, e := Read(strings.Repeat(`\x2f\&`, long)); len(got) != 1 || got[0] != strings.Repeat("/&", long) || e != api.OK {
		t.Errorf("Read of %d signs: %d texts, %d", long, len(got), e)
	}
}

// P7.3: where nothing is found all stays; what is replaced by itself stays.
func TestStays(t *testing.T) {
	next := row(13)
	itself := by(t, "&")
	found, lost := 0, 0
	for i := range 4000 {
		re := strayRe(next, 1+i%4)
		n, s := tree(t, re), strayText(next, "aabbc\x80", next(12))
		one, few := First(n, s, itself)
		every, many := All(n, s, itself)
		if one != s || every != s || few != min(many, 1) {
			t.Fatalf("%s in %q by itself: %q %d, %q %d", re, s, one, few, every, many)
		}
		found += few
		if many > 0 {
			continue
		}
		lost++
		l := strayRow(next, 4)
		if got, k := First(n, s, l); got != s || k != 0 {
			t.Fatalf("First(%s, %q, %q): %q %d", re, s, l, got, k)
		}
		if got, k := All(n, s, l); got != s || k != 0 {
			t.Fatalf("All(%s, %q, %q): %q %d", re, s, l, got, k)
		}
	}
	if found < 1000 || lost < 500 {
		t.Errorf("found %d times, not found %d times", found, lost)
	}
}

// asked is what all calls answer, in one row.
func asked(n []api.Re, s string, l []string) []string {
	first, one := First(n, s, l)
	all, many := All(n, s, l)
	told := Text(l)
	read, e := Read(told)
	row := []string{first, all, told, Put(l, s), strings.Repeat("1", one), strings.Repeat("1", many), strings.Repeat("1", int(e))}
	return append(row, read...)
}

// R3, R4: nothing is kept between calls, in whatever turns they come; what is handed in is as it was.
func TestNothingKept(t *testing.T) {
	trees := [][]api.Re{tree(t, "a"), tree(t, "b*"), tree(t, ""), tree(t, "^a|b$"), tree(t, "x"), nil}
	rows := [][]string{nil, {""}, {"", ""}, {"<", ">"}, {"a", "b", "a"}, {"&/\n\\"}}
	lines := []string{"", "abba", "banana", "x"}
	var before [][]string
	for round := range 3 {
		at := 0
		for _, n := range trees {
			for _, l := range rows {
				for _, s := range lines {
					nodes, was := slices.Clone(n), slices.Clone(l)
					got := asked(n, s, l)
					if !slices.Equal(n, nodes) || !slices.Equal(l, was) {
						t.Fatalf("%v and %q were written into: %v, %q", nodes, was, n, l)
					}
					if round == 0 {
						before = append(before, got)
					} else if !slices.Equal(got, before[at]) {
						t.Fatalf("asked again of %v, %q, %q: %q, not %q", n, s, l, got, before[at])
					}
					at++
				}
			}
		}
	}
}

// R3: a row with room behind its texts is not written into there, nor is a row that was answered somebody else's.
func TestNothingShared(t *testing.T) {
	room := []string{"<", ">", "kept", "kept"}
	n := tree(t, "a")
	for range 2 {
		l := room[:2]
		if s, k := All(n, "banana", l); s != "b<a>n<a>n<a>" || k != 3 {
			t.Errorf("All: %q %d", s, k)
		}
		if s, k := First(n, "banana", l); s != "b<a>nana" || k != 1 {
			t.Errorf("First: %q %d", s, k)
		}
		if s := Put(l, "a") + Text(l); s != `<a>\x3c&\x3e` {
			t.Errorf("Put and Text: %q", s)
		}
	}
	if !slices.Equal(room, []string{"<", ">", "kept", "kept"}) {
		t.Errorf("written into: %q", room)
	}
	one, two := by(t, "a&b&c"), by(t, "a&b&c")
	for i := range one {
		one[i] = "gone"
	}
	_ = append(one[:1], "gone", "gone")
	if want := []string{"a", "b", "c"}; !slices.Equal(two, want) || !slices.Equal(by(t, "a&b&c"), want) {
		t.Errorf("%q was changed by another one", two)
	}
	// All calls at once: there is nothing that they could keep.
	done := make(chan string)
	for range 8 {
		go func() {
			s, _ := All(n, strings.Repeat("ab", 500), []string{"<", ">"})
			done <- s
		}()
	}
	for range 8 {
		if s := <-done; s != strings.Repeat("<a>b", 500) {
			t.Errorf("at once: %q", s)
		}
	}
}

// The chapter's example.
func TestExamples(t *testing.T) {
	if s, k := All(tree(t, "a"), "banana", by(t, "[&]")); s != "b[a]n[a]n[a]" || k != 3 {
		t.Errorf("All of a in banana, by [&]: %q %d", s, k)
	}
}
