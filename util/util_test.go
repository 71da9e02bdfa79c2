package util

import (
	"math"
	"math/big"
	"regexp"
	"slices"
	"strings"
	"testing"
)

const (
	most  = math.MaxInt64
	least = math.MinInt64
)

// everyByte is a text of all bytes, from 0 to 255.
func everyByte() string {
	b := make([]byte, 256)
	for i := range b {
		b[i] = byte(i)
	}
	return string(b)
}

// allTexts are all texts of at most so many of these pieces.
func allTexts(pieces []string, many int) []string {
	l := []string{""}
	for from, n := 0, 1; n <= many; n++ {
		to := len(l)
		for _, s := range l[from:to] {
			for _, p := range pieces {
				l = append(l, s+p)
			}
		}
		from = to
	}
	return l
}

// row is a row of numbers that look stray, but are the same in each run.
func row(seed uint64) func(below int) int {
	return func(below int) int {
		seed = seed*6364136223846793005 + 1442695040888963407
		return int(seed >> 33 % uint64(below))
	}
}

var neither = regexp.MustCompile(`(?s)[^ \t]+`)

// wantFields is what Fields must answer.
func wantFields(s string) []string {
	var l []string
	for _, at := range neither.FindAllStringIndex(s, -1) {
		l = append(l, s[at[0]:at[1]])
	}
	return l
}

// P13.1: runs of bytes that are neither blanks nor tabs, in order.
func TestFields(t *testing.T) {
	for s, want := range map[string][]string{
		"": nil, " ": nil, "\t": nil, " \t \t": nil,
		"a": {"a"}, "a b": {"a", "b"}, "ab\tcd": {"ab", "cd"}, " \ta": {"a"}, "a \t": {"a"}, " a\tbc  d": {"a", "bc", "d"}, "\t a \t\t b\t ": {"a", "b"}, "b a b": {"b", "a", "b"},
		// Nothing else is one of both.
		"a\nb": {"a\nb"}, "\n": {"\n"}, " \n ": {"\n"}, "a\rb\vc\fd": {"a\rb\vc\fd"}, "a\x00b": {"a\x00b"}, "\x00 \xff": {"\x00", "\xff"}, "a\u00a0b\u2003c\u0085\u3000": {"a\u00a0b\u2003c\u0085\u3000"}, "\xa0\x85 \x85": {"\xa0\x85", "\x85"}, "\xc2 \xa0": {"\xc2", "\xa0"}, "é ü": {"é", "ü"}, `"a b"`: {`"a`, `b"`}, `a\ b`: {`a\`, "b"},
	} {
		if l := Fields(s); !slices.Equal(l, want) {
			t.Errorf("Fields(%q): %q, not %q", s, l, want)
		}
	}
	if l := Fields(everyByte()); !slices.Equal(l, []string{everyByte()[:9], everyByte()[10:32], everyByte()[33:]}) {
		t.Errorf("Fields of every byte: %q", l)
	}
	if l := Fields(strings.Repeat(" ab\t", 100000)); len(l) != 100000 || l[0] != "ab" || l[99999] != "ab" {
		t.Errorf("Fields of a long text: %d", len(l))
	}
	for _, s := range allTexts([]string{"a", " ", "\t", "\n", "\xc2", "\xa0", "é"}, 5) {
		if l, want := Fields(s), wantFields(s); !slices.Equal(l, want) {
			t.Fatalf("Fields(%q): %q, not %q", s, l, want)
		}
	}
}

// P13.1: the text, one of its fields, or nothing.
func TestField(t *testing.T) {
	const s = " a\tbc  d "
	for n, want := range map[int64]string{
		0: s, 1: "a", 2: "bc", 3: "d", 4: "", 5: "", -1: "", -2: "", -3: "", most: "", least: "", least + 1: "", 1 << 32: "", 1<<32 + 1: "", -1<<32 + 1: "", 1<<63 - 4: "", 256: "", 257: "",
	} {
		if got := Field(s, n); got != want {
			t.Errorf("Field(%q, %d): %q, not %q", s, n, got, want)
		}
	}
	for _, x := range []struct {
		s    string
		n    int64
		want string
	}{{"", 0, ""}, {"", 1, ""}, {"", -1, ""}, {" \t", 0, " \t"}, {" \t", 1, ""}, {"a b", 2, "b"}, {"a\nb", 1, "a\nb"}, {"a\nb", 2, ""}, {"\n", 0, "\n"}, {everyByte(), 0, everyByte()}, {everyByte(), 3, everyByte()[33:]}} {
		if got := Field(x.s, x.n); got != x.want {
			t.Errorf("Field(%q, %d): %q, not %q", x.s, x.n, got, x.want)
		}
	}
	for _, s := range allTexts([]string{"a", "b", " ", "\t", "\n"}, 5) {
		l := append([]string{s}, wantFields(s)...)
		for n := int64(-2); n < 6; n++ {
			want := ""
			if n >= 0 && n < int64(len(l)) {
				want = l[n]
			}
			if got := Field(s, n); got != want {
				t.Fatalf("Field(%q, %d): %q, not %q", s, n, got, want)
			}
		}
	}
}

// wantSub is what Sub must answer: each place is held against the bounds, in numbers of any size.
func wantSub(s string, from, many int64) string {
	first := big.NewInt(from)
	end := new(big.Int).Add(first, big.NewInt(many))
	var b []byte
	for i := range len(s) {
		if at := big.NewInt(int64(i + 1)); at.Cmp(first) >= 0 && at.Cmp(end) < 0 {
			b = append(b, s[i])
		}
	}
	return string(b)
}

// P13.1: the bytes at so many places, those alone that the text has.
func TestSub(t *testing.T) {
	for _, x := range []struct {
		s          string
		from, many int64
		want       string
	}{
		{"hello", 2, 3, "ell"}, {"hello", 1, 5, "hello"}, {"hello", 1, 1, "h"}, {"hello", 5, 1, "o"}, {"hello", 3, 0, ""}, {"hello", 2, 99, "ello"}, {"hello", 5, 2, "o"}, {"hello", 6, 1, ""}, {"hello", 7, 1, ""}, {"hello", 9, 1, ""},
		// From ahead of the text on: those places count, too.
		{"hello", 0, 2, "h"}, {"hello", 0, 1, ""}, {"hello", 0, 6, "hello"}, {"hello", 0, 7, "hello"}, {"hello", -1, 2, ""}, {"hello", -1, 3, "h"}, {"hello", -1, 99, "hello"}, {"hello", -9, 11, "h"}, {"hello", -9, 10, ""},
		// As many as there are none.
		{"hello", 1, -1, ""}, {"hello", 3, -1, ""}, {"hello", 0, -1, ""}, {"hello", -1, -5, ""}, {"hello", 6, -3, ""},
		// Far ones.
		{"hello", 1, most, "hello"}, {"hello", 2, most, "ello"}, {"hello", 5, most, "o"}, {"hello", 6, most, ""}, {"hello", most, most, ""}, {"hello", most, 1, ""}, {"hello", 0, most, "hello"}, {"hello", -1, most, "hello"}, {"hello", least, most, ""}, {"hello", least, 1, ""}, {"hello", least + 1, most, ""}, {"hello", least + 2, most, ""}, {"hello", least + 3, most, "h"}, {"hello", least + 4, most, "he"}, {"hello", least + 6, most, "hell"}, {"hello", least + 7, most, "hello"}, {"hello", least + 8, most, "hello"},
		{"hello", least, least, ""}, {"hello", 1, least, ""}, {"hello", 0, least, ""}, {"hello", -1, least, ""}, {"hello", most, least, ""}, {"hello", 2, least + 1, ""}, {"hello", -2, least + 1, ""}, {"hello", 1 << 32, 5, ""}, {"hello", 1<<32 + 1, 1 << 32, ""}, {"hello", 1, 1 << 32, "hello"}, {"hello", 1, 1<<32 + 2, "hello"}, {"hello", 1 - 1<<32, 1<<32 + 2, "he"},
		{"", 1, 1, ""}, {"", 0, 0, ""}, {"", 0, most, ""}, {"", least, most, ""}, {"", 1, most, ""},
		// Bytes, not runes.
		{"éa", 2, 2, "\xa9a"}, {"a\nb", 2, 1, "\n"}, {"\x00\xff", 2, 1, "\xff"},
	} {
		if got := Sub(x.s, x.from, x.many); got != x.want {
			t.Errorf("Sub(%q, %d, %d): %q, not %q", x.s, x.from, x.many, got, x.want)
		}
	}
	bounds := []int64{least, least + 1, least + 2, least + 3, least + 4, least + 5, least + 6, -1 << 32, -9, -3, -2, -1, 0, 1, 2, 3, 4, 5, 9, 1 << 32, most - 4, most - 3, most - 2, most - 1, most}
	for _, s := range []string{"", "a", "ab", "abc", "é\n\x00", "abcdef"} {
		for _, from := range bounds {
			for _, many := range bounds {
				if got, want := Sub(s, from, many), wantSub(s, from, many); got != want {
					t.Errorf("Sub(%q, %d, %d): %q, not %q", s, from, many, got, want)
				}
			}
		}
	}
}

// wantIndex is what Index must answer: the last one found from the end on.
func wantIndex(s, t string) int {
	want := 0
	for at := len(s); at >= 0; at-- {
		if strings.HasPrefix(s[at:], t) {
			want = at + 1
		}
	}
	return want
}

// P13.1: where a text stands first.
func TestIndex(t *testing.T) {
	for _, x := range []struct {
		s, t string
		want int
	}{
		{"banana", "an", 2}, {"banana", "b", 1}, {"banana", "a", 2}, {"banana", "na", 3}, {"banana", "nan", 3}, {"banana", "banana", 1}, {"banana", "anab", 0}, {"banana", "bananas", 0}, {"banana", "x", 0}, {"banana", "N", 0}, {"banana", "a.", 0}, {"banana", "[a]", 0},
		{"", "", 1}, {"a", "", 1}, {"", "a", 0}, {"aab", "ab", 2}, {"ababac", "abac", 3}, {"a b", " ", 2}, {"a\nb", "\n", 2}, {"a\nb", "b", 3}, {"\x00\xff", "\xff", 2}, {"éa", "a", 3}, {"é", "\xa9", 2}, {strings.Repeat("a", 100000) + "b", "ab", 100000},
	} {
		if got := Index(x.s, x.t); got != x.want {
			t.Errorf("Index(%q, %q): %d, not %d", x.s, x.t, got, x.want)
		}
	}
	parts := allTexts([]string{"a", "b", "\xa9"}, 3)
	for _, s := range allTexts([]string{"a", "b", "é"}, 5) {
		for _, p := range parts {
			if got, want := Index(s, p), wantIndex(s, p); got != want {
				t.Fatalf("Index(%q, %q): %d, not %d", s, p, got, want)
			}
		}
	}
}

// P13.1: letters alone, one way or the other.
func TestCase(t *testing.T) {
	const small, great = "abcdefghijklmnopqrstuvwxyz", "ABCDEFGHIJKLMNOPQRSTUVWXYZ"
	for i := range 256 {
		c := string([]byte{byte(i)})
		up, down := c, c
		if at := strings.IndexByte(small, byte(i)); at >= 0 {
			up = great[at : at+1]
		}
		if at := strings.IndexByte(great, byte(i)); at >= 0 {
			down = small[at : at+1]
		}
		if got := Case(c, true); got != up {
			t.Errorf("Case(%q, true): %q, not %q", c, got, up)
		}
		if got := Case(c, false); got != down {
			t.Errorf("Case(%q, false): %q, not %q", c, got, down)
		}
	}
	for _, x := range []struct{ s, up, down string }{
		{"", "", ""}, {"aZ1", "AZ1", "az1"}, {"Az", "AZ", "az"}, {small + great, great + great, small + small}, {"éÉß\u017f\u212a", "éÉß\u017f\u212a", "éÉß\u017f\u212a"}, {"a\xffB\x00c\xc3", "A\xffB\x00C\xc3", "a\xffb\x00c\xc3"}, {"@[`{", "@[`{", "@[`{"}, {" a\n\tB ", " A\n\tB ", " a\n\tb "},
	} {
		if up, down := Case(x.s, true), Case(x.s, false); up != x.up || down != x.down {
			t.Errorf("Case(%q): %q and %q, not %q and %q", x.s, up, down, x.up, x.down)
		}
	}
	if got := Case(everyByte(), true); len(got) != 256 || strings.ContainsAny(got, small) || Case(got, true) != got {
		t.Errorf("Case of every byte: %q", got)
	}
}

// names are those of the utilities.
var names = []string{"echo", ":", "true", "false", "hex", "unhex", "dec", "str", "test", "sed"}

// strange are texts that name no utility.
var strange = []string{"", " ", "cat", "[", "[[", "read", "eval", "exit", "break", "continue", "printf", "awk", "if", "Echo", "ECHO", "echo ", " echo", "ech", "echoo", "echo\n", "echo\x00", "::", "len", "cmp", "-n", "=", "True", "truE", "seds", "hex A", "str len", "dec +", "+", "x6563686f", "tru\xe5", everyByte()}

// P13.1: just the names of the table are known.
func TestKnown(t *testing.T) {
	for _, name := range names {
		if !Known(name) {
			t.Errorf("%q isn't known", name)
		}
	}
	for _, name := range strange {
		if Known(name) {
			t.Errorf("%q is known", name)
		}
	}
	for _, name := range allTexts([]string{"e", "c", "h", "o", "x", "s", "d", "t", "r", ":"}, 4) {
		if Known(name) != slices.Contains(names, name) {
			t.Errorf("%q", name)
		}
	}
}
