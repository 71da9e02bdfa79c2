package scan

import (
	"slices"
	"strings"
	"testing"

	"dragoman/api"
)

// follows holds that each token begins behind the one ahead, and has what its kind has alone.
func follows(t *testing.T, l []api.Token) {
	t.Helper()
	for i, x := range l {
		if i > 0 && x.At <= l[i-1].At || x.At < 0 {
			t.Errorf("%+v behind %+v", x, l[i-1])
		}
		if (x.Kind == api.TEnd) != (i == len(l)-1) {
			t.Errorf("%+v is token %d of %d", x, i, len(l))
		}
		if x.N != 0 && x.Kind != api.TNum || x.Text != "" && (x.Kind == api.TNum || x.Kind == api.TLine || x.Kind == api.TEnd) {
			t.Errorf("%+v has more than it may", x)
		}
	}
}

// both are the tokens of two programs with a line's end between, if they are those of each.
func both(a, b string) []api.Token {
	l, _, _ := Tokens(a)
	m, _, _ := Tokens(b)
	l[len(l)-1] = line(len(a))
	for _, x := range m {
		x.At += len(a) + 1
		l = append(l, x)
	}
	return l
}

// P15.2: two programs with byte 10 between.
func TestBoth(t *testing.T) {
	programs := []string{"", " ", "x", "x /y/ z", "/y/", "$1 ~ /a/", "# a", "x # a", "{ print }", "\n", ";;", `"a"`, `x = "\""`, "1.5", ")", "]", "(", "if", "/=/", "//", "x /", "x /=", "\t"}
	next := row(152)
	for len(programs) < 400 {
		s := strayText(next, 20)
		if _, e, _ := Tokens(s); e == api.OK {
			programs = append(programs, s)
		}
	}
	for _, a := range programs {
		for _, b := range programs {
			tokens(t, a+"\n"+b, both(a, b)...)
		}
		if t.Failed() {
			return
		}
	}
	// Three of them, too.
	for i := range programs[:len(programs)-2] {
		a, b, c := programs[i], programs[i+1], programs[i+2]
		tokens(t, a+"\n"+b+"\n"+c, both(a+"\n"+b, c)...)
	}
}

// P15.2: as many bytes, or tokens, as may be, and one more.
func TestBothMost(t *testing.T) {
	for _, ahead := range []int{0, 1, 2, 700, 1997, 1998} {
		a := strings.Repeat("$", ahead)
		// The end between is one token, both programs' ends become one.
		b := strings.Repeat("-", mostTokens-2-ahead)
		tokens(t, a+"\n"+b, both(a, b)...)
		refused(t, a+"\n"+b+"-", api.ErrBig, mostTokens)
		refused(t, a+"$\n"+b, api.ErrBig, mostTokens)
		refused(t, a+"\n"+b+"\n", api.ErrBig, mostTokens)
	}
	a, b := "x"+strings.Repeat(" ", 5000), strings.Repeat(" ", 3190)+"y"
	tokens(t, a, name(0, "x"), end(5001))
	tokens(t, a+b, name(0, "x"), name(8191, "y"), end(8192))
	tokens(t, a+"\n"+b[1:], name(0, "x"), line(5001), name(8191, "y"), end(8192))
	refused(t, a+"\n"+b, api.ErrBig, 0)
}

// P15.2: what is wrong in the second one is told there, as it is alone.
func TestBothWrong(t *testing.T) {
	for _, a := range []string{"", "x", "x /y/", "/y/ # \"", "\n;", "$"} {
		for _, b := range []string{"@", "x &", `"a`, "1 " + tooGreat, "/a", "/(/", "x .5", "\t/a\n/"} {
			l, e, at := Tokens(b)
			if len(l) != 0 || e == api.OK {
				t.Fatalf("Tokens(%q): %+v %d", b, l, e)
			}
			refused(t, a+"\n"+b, e, at+len(a)+1)
			// In the first one it is told, whatever stands behind.
			if !strings.HasPrefix(b, "\t/") && !strings.HasPrefix(b, "/") {
				refused(t, b+"\n"+a, e, at)
			}
		}
	}
}

// R1, R4: each text has an answer, the same one each time, whatever was asked between.
func TestAgain(t *testing.T) {
	next := row(4)
	for range 2000 {
		s := strayText(next, 30)
		l, e, at := Tokens(s)
		kept := slices.Clone(l)
		Tokens(strayText(next, 30))
		Keys()[0], Marks()[0] = "x", "@"
		m, f, place := Tokens(s)
		if !slices.Equal(l, m) || e != f || at != place || !slices.Equal(l, kept) {
			t.Fatalf("Tokens(%q), twice: %s, %d at %d, %s, %d at %d", s, told(l, m), e, at, told(m, l), f, place)
		}
	}
}
