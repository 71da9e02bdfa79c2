package shvm

import (
	"slices"
	"strings"
	"testing"
)

// P14.1: what isn't quoted is cut, what is quoted isn't; what is laid together is one field.
func TestFields(t *testing.T) {
	const q = "q"
	for _, x := range []struct {
		// parts are those that a q stands ahead of, quoted, and others.
		parts []string
		want  []string
	}{
		{nil, nil}, {[]string{""}, nil}, {[]string{"", "", ""}, nil}, {[]string{" \t\n"}, nil},
		{[]string{"a"}, []string{"a"}}, {[]string{"a", "b"}, []string{"ab"}}, {[]string{"a b"}, []string{"a", "b"}}, {[]string{"a\tb\nc"}, []string{"a", "b", "c"}}, {[]string{"  a  b  "}, []string{"a", "b"}}, {[]string{"\t\n a \n\tb"}, []string{"a", "b"}},
		{[]string{"a ", "b"}, []string{"a", "b"}}, {[]string{"a", " b"}, []string{"a", "b"}}, {[]string{"a", " ", "b"}, []string{"a", "b"}}, {[]string{"a", "", "b"}, []string{"ab"}}, {[]string{"a b", "c d"}, []string{"a", "bc", "d"}},
		{[]string{q}, []string{""}}, {[]string{q, q}, []string{""}}, {[]string{q, ""}, []string{""}}, {[]string{"", q}, []string{""}}, {[]string{q, " "}, []string{""}}, {[]string{" ", q}, []string{""}}, {[]string{q, " ", q}, []string{"", ""}}, {[]string{" ", q, " ", " ", q, " "}, []string{"", ""}},
		{[]string{"qa b"}, []string{"a b"}}, {[]string{"q \t\n"}, []string{" \t\n"}}, {[]string{"q a", "b c", "qd "}, []string{" ab", "cd "}}, {[]string{"a ", "q ", " b"}, []string{"a", " ", "b"}}, {[]string{"a ", q, " b"}, []string{"a", "", "b"}}, {[]string{"a", q, "b"}, []string{"ab"}}, {[]string{"a", q, " b"}, []string{"a", "b"}}, {[]string{"a ", q, "b"}, []string{"a", "b"}}, {[]string{"qa", "qb"}, []string{"ab"}},
		// No other byte is one at which it is cut.
		{[]string{"a\rb\vc\fd\x00e\u00a0f\xff"}, []string{"a\rb\vc\fd\x00e\u00a0f\xff"}}, {[]string{"\r \r"}, []string{"\r", "\r"}},
	} {
		var parts []string
		var quoted []bool
		for _, part := range x.parts {
			s, is := strings.CutPrefix(part, q)
			parts, quoted = append(parts, s), append(quoted, is)
		}
		if got := Fields(parts, quoted); !slices.Equal(got, x.want) {
			t.Errorf("Fields(%q, %v): %q, not %q", parts, quoted, got, x.want)
		}
	}
}

// secondFields is Fields, told a second time: of all bytes in a row, in which -1 is something without bytes, and -2 is where it is cut.
func secondFields(parts []string, quoted []bool) []string {
	var row []int
	for i, part := range parts {
		if quoted[i] {
			row = append(row, -1)
		}
		for _, c := range []byte(part) {
			if !quoted[i] && (c == ' ' || c == '\t' || c == '\n') {
				row = append(row, -2)
			} else {
				row = append(row, int(c))
			}
		}
	}
	var l []string
	for {
		at := slices.Index(row, -2)
		one := row
		if at >= 0 {
			one = row[:at]
		}
		if len(one) > 0 {
			var s []byte
			for _, c := range one {
				if c >= 0 {
					s = append(s, byte(c))
				}
			}
			l = append(l, string(s))
		}
		if at < 0 {
			return l
		}
		row = row[at+1:]
	}
}

// P14.1: all rows of few short parts.
func TestFieldsAll(t *testing.T) {
	texts := []string{""}
	for _, s := range texts {
		if len(s) < 3 {
			for _, c := range "a \n" {
				texts = append(texts, s+string(c))
			}
		}
	}
	for _, s := range slices.Clone(texts) {
		if len(s) == 2 {
			for _, c := range "b\t" {
				texts = append(texts, s+string(c))
			}
		}
	}
	for _, a := range texts {
		for _, b := range texts {
			for _, c := range []string{"", "a", " ", "a ", " a", "\t"} {
				for bits := range 8 {
					parts, quoted := []string{a, b, c}, []bool{bits&1 > 0, bits&2 > 0, bits&4 > 0}
					got, want := Fields(parts, quoted), secondFields(parts, quoted)
					if !slices.Equal(got, want) {
						t.Fatalf("Fields(%q, %v): %q, not %q", parts, quoted, got, want)
					}
				}
			}
		}
	}
}

// P14.1: Fields itself has no bound.
func TestFieldsLong(t *testing.T) {
	long := strings.Repeat("ab", 1<<17)
	if got := Fields([]string{long, "c d", long}, []bool{false, false, true}); !slices.Equal(got, []string{long + "c", "d" + long}) {
		t.Errorf("%d fields", len(got))
	}
	if got := Fields([]string{strings.Repeat(" a", 100000)}, []bool{false}); len(got) != 100000 {
		t.Errorf("%d fields", len(got))
	}
	// Many parts of one field.
	parts := slices.Repeat([]string{"x"}, 1<<18)
	if got := Fields(parts, make([]bool, len(parts))); len(got) != 1 || len(got[0]) != 1<<18 {
		t.Errorf("%d fields", len(got))
	}
}

// LANGUAGE's rule 4: also of rows that aren't of one length there is an answer.
func TestFieldsUneven(t *testing.T) {
	Fields([]string{"a", "b c"}, nil)
	Fields([]string{"a", "b c"}, []bool{true})
	Fields(nil, []bool{true, false})
}

// R3: what is handed in isn't written into, and what comes out is nobody else's.
func TestFieldsShared(t *testing.T) {
	parts, quoted := []string{"a b", " c"}, []bool{false, true}
	one, two := Fields(parts, quoted), Fields(parts, quoted)
	one[0] = "gone"
	_ = append(one[:1], "gone")
	if !slices.Equal(two, []string{"a", "b c"}) || !slices.Equal(parts, []string{"a b", " c"}) || !slices.Equal(quoted, []bool{false, true}) {
		t.Error(two, parts, quoted)
	}
}

// P14.1: all bytes 10 at the end, and these alone.
func TestTrim(t *testing.T) {
	for _, x := range [][2]string{{"", ""}, {"\n", ""}, {"\n\n\n", ""}, {"a", "a"}, {"a\n", "a"}, {"a\n\n", "a"}, {"a\nb\n", "a\nb"}, {"\na\n", "\na"}, {"a \n", "a "}, {"a\n ", "a\n "}, {"a\n \n", "a\n "}, {"a\r\n", "a\r"}, {"\n\n\t\n", "\n\n\t"}, {"\xff\n\n", "\xff"}, {"\x00\n", "\x00"}, {"\u0085\n", "\u0085"}, {strings.Repeat("\n", 100000), ""}, {"a" + strings.Repeat("\n", 100000), "a"}} {
		if got := Trim(x[0]); got != x[1] {
			t.Errorf("Trim(%.20q): %q, not %q", x[0], got, x[1])
		}
	}
}
