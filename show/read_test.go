package show

import (
	"strings"
	"testing"

	"dragoman/api"
	"dragoman/shell"
)

// goesRound holds that what a text is read as is right, and that its text is read as it: is it read at all?
func goesRound(t *testing.T, s string) bool {
	t.Helper()
	l, e := shell.Read(s)
	if e != api.OK {
		return false
	}
	told := Text(l)
	if !Right(l) || told != secondText(l) {
		t.Fatalf("Read(%q): right is %v, %q", s, Right(l), told)
	}
	if k, e := shell.Read(told); e != api.OK || !shell.Same(k, l) || Text(k) != told {
		t.Fatalf("Read(%q), told as %q: %d, %q", s, told, e, Text(k))
	}
	return true
}

// P12.4: all short texts of these bytes.
func TestShort(t *testing.T) {
	t.Parallel()
	many := 0
	for of, most := range map[string]int{"a \n;|#=$'\"\\(){&": 4, "a $()\n\"#": 6, "a |=;\n": 7, "$x{}#:-%()\"": 5, "='\"\\#x1\n": 5} {
		for _, s := range texts(strings.Split(of, ""), most) {
			if goesRound(t, s) {
				many++
			}
		}
	}
	if many < 10000 {
		t.Errorf("only %d are read", many)
	}
}

// P12.4: all short texts of these pieces.
func TestShortPieces(t *testing.T) {
	t.Parallel()
	many := 0
	for of, most := range map[string]int{
		"if_a;then b ; else fi |":       5,
		"while_a;do b ; fi done | ||":   5,
		"for_x_in ; do a done fi if":    6,
		"if then fi a ; $( )":           6,
		"$(( ( ) )) 1 $( x":             6,
		"${x:- ${#x ${x# ${x% a # } \"": 4,
		"if then else fi while do done for x in a x=1 | || ; $( ) \" '' # \\ & $x": 3,
	} {
		pieces := strings.Fields(of)
		for i, piece := range pieces {
			pieces[i] = strings.ReplaceAll(piece, "_", " ") + " "
		}
		for _, s := range texts(pieces, most) {
			for _, u := range []string{s, strings.ReplaceAll(s, " ", ""), strings.ReplaceAll(s, "; ", "\n")} {
				if goesRound(t, u) {
					many++
				}
			}
		}
	}
	if many < 5000 {
		t.Errorf("only %d are read", many)
	}
}

// P12.4: stray texts with something put in, taken out, or put in its place.
func TestStrayRead(t *testing.T) {
	t.Parallel()
	pieces := []string{"a", " ", "\n", ";", "|", "||", "#", "'", "\"", "\\", "$x", "$(", ")", "$((", "))", "(", "{", "}", "${x:-", "=", "x=", "x=1 ", "if ", "; then ", "; fi", "\nelse ", "while ", ";do ", " done", "for x in ", " in ", "\x00", "\xff", "1"}
	next := stray(12)
	many := 0
	for seed := range uint64(6000) {
		s := Text(made(seed*11+2, int(seed%4)))
		for range 4 {
			at := next(len(s) + 1)
			upto := at + min(next(4), len(s)-at)
			piece := pieces[next(len(pieces))]
			for _, u := range []string{s[:at] + piece + s[at:], s[:at] + piece + s[upto:], s[:at] + s[upto:], s[:at]} {
				if goesRound(t, u) {
					many++
				}
			}
		}
	}
	if many < 20000 {
		t.Errorf("only %d are read", many)
	}
}

// P12.4: scripts as long, and as deep, as may be read.
func TestReadMost(t *testing.T) {
	t.Parallel()
	for _, x := range [][3]string{
		{"", "a\n", ""}, {"", "a ", ""}, {"", "a", ""}, {"", "''", ""}, {"'", "a", "'"}, {"", "x=", "a"}, {"", "x= ", "a"}, {"", "${x}", ""}, {"$((", "()", "))"}, {"a", " | a", ""}, {"a", " || a", ""}, {"", "$(\n)", ""}, {"", "\"$(a\n)\"", ""},
		{"", "if a\nthen\nb\nelse\nc\nfi\n", ""}, {"", "while a\ndo\nb\ndone\n", ""}, {"", "for x in a\ndo\nb\ndone\n", ""}, {"for x in", " a", "\ndo\nb\ndone"},
		{strings.Repeat("$(", 30), "a\n", strings.Repeat("\n)", 30)}, {strings.Repeat("if ", 30) + "a\n", "a\n", strings.Repeat("then\nb\nfi\n", 30)},
	} {
		many := (api.MaxScript - len(x[0]) - len(x[2])) / len(x[1])
		s := x[0] + strings.Repeat(x[1], many) + x[2]
		l, e := shell.Read(s)
		if e != api.OK || !Right(l) {
			t.Errorf("%q, %d times: %d, right is %v", x[1], many, e, Right(l))
			continue
		}
		told := Text(l)
		k, e := shell.Read(told)
		want := api.OK
		// What is told may be longer than what was read.
		if len(told) > api.MaxScript {
			want = api.ErrBig
		}
		if e != want || e == api.OK && !shell.Same(k, l) {
			t.Errorf("%q, %d times, told in %d bytes and read again: %d", x[1], many, len(told), e)
		}
	}
}
