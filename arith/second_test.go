package arith

import (
	"math/big"
	"regexp"
	"slices"
	"strings"
	"testing"

	"dragoman/api"
)

// A second reading of the chapter: a text is cut into pieces by Go's regular expressions, what can't stand is found by going through the pieces with a row of what is open, and what they come to is found from the top, by the last mark that binds least.

// piece is a part of a text: a figure's, a name, a mark, a sign, or a bracket.
type piece struct {
	kind byte // 'n', 'v', 'm', 's', '(' or ')'
	text string
}

var (
	secondBlanks  = regexp.MustCompile(`^[ \t\n]*`)
	secondFigures = regexp.MustCompile(`^[0-9]+`)
	secondName    = regexp.MustCompile(`^[A-Za-z_][A-Za-z0-9_]*`)
	secondMark    = regexp.MustCompile(`^(\|\||&&|==|!=|<=|>=|[<>+\-*/%])`)
)

// pieces are a text's, or what is wrong first.
func pieces(s string) ([]piece, api.Errno) {
	var l []piece
	var open []byte // the signs and brackets that what is next stands in
	behind := false // behind a number?
	for {
		s = s[len(secondBlanks.FindString(s)):]
		if s == "" {
			if !behind || len(open) > 0 {
				return nil, api.ErrSyntax
			}
			return l, api.OK
		}
		var p piece
		switch m := secondMark.FindString(s); {
		case behind && m != "":
			p, behind = piece{'m', m}, false
		case behind && s[0] == ')' && len(open) > 0:
			p, open = piece{')', ")"}, closed(open[:len(open)-1])
		case behind:
			return nil, api.ErrSyntax
		case strings.ContainsRune("-+!(", rune(s[0])):
			if len(open) == 30 {
				return nil, api.ErrDeep
			}
			p = piece{'s', s[:1]}
			if s[0] == '(' {
				p.kind = '('
			}
			open = append(open, p.kind)
		case secondFigures.MatchString(s):
			p = piece{'n', secondFigures.FindString(s)}
			if n, _ := new(big.Int).SetString(p.text, 10); !n.IsInt64() {
				return nil, api.ErrSyntax
			}
			behind, open = true, closed(open)
		case secondName.MatchString(s):
			p = piece{'v', secondName.FindString(s)}
			behind, open = true, closed(open)
		default:
			return nil, api.ErrSyntax
		}
		l, s = append(l, p), s[len(p.text):]
	}
}

// closed is what is open behind a number: no sign in front of it any more.
func closed(open []byte) []byte {
	for len(open) > 0 && open[len(open)-1] == 's' {
		open = open[:len(open)-1]
	}
	return open
}

// top is where the last mark of those that bind least stands, and -1, if there is none outside of brackets.
func top(l []piece) int {
	at, in := -1, 0
	for i, p := range l {
		switch p.kind {
		case '(':
			in++
		case ')':
			in--
		case 'm':
			if in == 0 && (at < 0 || level(p.text) <= level(l[at].text)) {
				at = i
			}
		}
	}
	return at
}

// fault is why something can't be reckoned.
type fault api.Errno

// second is what pieces come to; it panics with a fault.
func second(l []piece, vars map[string]string) *big.Int {
	one := func(so bool) *big.Int {
		if so {
			return big.NewInt(1)
		}
		return big.NewInt(0)
	}
	at := top(l)
	if at < 0 {
		return alone(l, vars)
	}
	a := second(l[:at], vars)
	mark := l[at].text
	if mark == "||" && a.Sign() != 0 || mark == "&&" && a.Sign() == 0 {
		return one(mark == "||")
	}
	b := second(l[at+1:], vars)
	switch mark {
	case "||", "&&":
		return one(b.Sign() != 0)
	case "==":
		return one(a.Cmp(b) == 0)
	case "!=":
		return one(a.Cmp(b) != 0)
	case "<":
		return one(a.Cmp(b) < 0)
	case "<=":
		return one(a.Cmp(b) <= 0)
	case ">":
		return one(a.Cmp(b) > 0)
	case ">=":
		return one(a.Cmp(b) >= 0)
	case "+":
		return big.NewInt(around(a.Add(a, b)))
	case "-":
		return big.NewInt(around(a.Sub(a, b)))
	case "*":
		return big.NewInt(around(a.Mul(a, b)))
	}
	if b.Sign() == 0 {
		panic(fault(api.ErrZero))
	}
	if mark == "/" {
		return big.NewInt(around(a.Quo(a, b)))
	}
	return a.Rem(a, b)
}

// alone is what pieces without a mark outside of brackets come to.
func alone(l []piece, vars map[string]string) *big.Int {
	switch first := l[0]; first.kind {
	case '(':
		return second(l[1:len(l)-1], vars)
	case 's':
		n := alone(l[1:], vars)
		switch {
		case first.text == "-":
			return big.NewInt(around(n.Neg(n)))
		case first.text == "!" && n.Sign() == 0:
			return big.NewInt(1)
		case first.text == "!":
			return big.NewInt(0)
		}
		return n
	case 'n':
		n, _ := new(big.Int).SetString(first.text, 10)
		return n
	}
	value := vars[l[0].text]
	if value == "" {
		return big.NewInt(0)
	}
	n, ok := new(big.Int).SetString(value, 10)
	if !ok || !n.IsInt64() || value[0] == '+' {
		panic(fault(api.ErrForm))
	}
	return n
}

// secondEval is what Eval must answer.
func secondEval(s string, vars []api.Var) (n int64, e api.Errno) {
	l, e := pieces(s)
	if e != api.OK {
		return 0, e
	}
	values := map[string]string{}
	for _, v := range vars {
		values[v.Name] = v.Value
	}
	defer func() {
		if why := recover(); why != nil {
			n, e = 0, api.Errno(why.(fault))
		}
	}()
	return second(l, values).Int64(), api.OK
}

// alike holds Eval against the second reading.
func alike(t *testing.T, s string) api.Errno {
	t.Helper()
	n, e := Eval(s, some())
	if want, wantE := secondEval(s, some()); n != want || e != wantE {
		t.Fatalf("Eval(%q): %d, %d, not %d, %d", s, n, e, want, wantE)
	}
	return e
}

// P10.1: all short texts.
func TestShort(t *testing.T) {
	const of = "01ax(-+!)*/<=|& "
	texts := []string{""}
	for long := range 5 {
		var next []string
		for _, s := range texts {
			alike(t, s)
			if long == 4 {
				continue
			}
			for i := range len(of) {
				next = append(next, s+of[i:i+1])
			}
		}
		texts = next
	}
}

// P10.1: all short rows of pieces, with each of the marks.
func TestShortRows(t *testing.T) {
	marks := strings.Fields("|| && == != < <= > >= + - * / %")
	ends := []string{"0", "-2", "x", "!5"}
	for _, a := range ends {
		for _, b := range ends {
			for _, c := range ends {
				for _, first := range marks {
					for _, second := range marks {
						alike(t, a+first+b+second+c)
						alike(t, a+" "+first+" ("+b+" "+second+" "+c+")")
					}
				}
			}
		}
	}
}

// stray is a text that can be read, most times.
func stray(next func() uint64, deep int) string {
	pick := func(of ...string) string { return of[next()%uint64(len(of))] }
	gap := func() string { return pick("", "", "", " ", "\n", "\t ") }
	if deep == 0 || next()%5 == 0 {
		return gap() + pick("0", "1", "2", "7", "10", "9223372036854775807", "4294967296", "a", "_", "empty", "nothing", "least", "most", "a1", "x", "0", "nought") + gap()
	}
	switch next() % 8 {
	case 0, 1:
		return gap() + pick("-", "+", "!") + stray(next, deep-1)
	case 2:
		return gap() + "(" + stray(next, deep-1) + ")" + gap()
	}
	return stray(next, deep-1) + pick("||", "&&", "==", "!=", "<", "<=", ">", ">=", "+", "-", "*", "/", "%", "+", "-", "*") + stray(next, deep-1)
}

// P10.1: many stray texts, as they are and with a byte broken.
func TestStray(t *testing.T) {
	const of = "01ax(-+!)*/%<>=|& \t\n9_$\x00"
	next := row(7)
	many := map[api.Errno]int{}
	for i := range 20000 {
		s := stray(next, i%9)
		many[alike(t, s)]++
		at := int(next() % uint64(len(s)))
		b := string(of[next()%uint64(len(of))])
		many[alike(t, s[:at]+b+s[at:])]++
		many[alike(t, s[:at]+b+s[at+1:])]++
		many[alike(t, s[:at]+s[at+1:])]++
		many[alike(t, s[:at])]++
	}
	for _, e := range []api.Errno{api.OK, api.ErrSyntax, api.ErrForm, api.ErrZero} {
		if many[e] < 1000 {
			t.Errorf("the error %d comes too seldom: %v", e, many)
		}
	}
}

// P10.1: stray texts that are nested deeply.
func TestStrayDeep(t *testing.T) {
	next := row(8)
	many := map[api.Errno]int{}
	for range 6000 {
		s := "1"
		for range 20 + next()%14 {
			switch next() % 6 {
			case 0, 1, 2:
				s = "(" + s + ")"
			case 3:
				s = "(2-" + s + "*3)"
			default:
				s = string("-+!"[next()%3]) + s
			}
		}
		many[alike(t, s)]++
		at := int(next() % uint64(len(s)))
		many[alike(t, s[:at]+"-"+s[at:])]++
		many[alike(t, s[:at]+"("+s[at:])]++
		many[alike(t, s[:at]+"*"+s[at:])]++
		many[alike(t, s[:at]+s[at+1:])]++
		many[alike(t, s[:at])]++
	}
	for _, e := range []api.Errno{api.OK, api.ErrSyntax, api.ErrDeep} {
		if many[e] < 1000 {
			t.Errorf("the error %d comes too seldom: %v", e, many)
		}
	}
}

// P10.3: brackets around all change nothing; nor do blanks.
func TestBrackets(t *testing.T) {
	next := row(9)
	for i := range 20000 {
		s := stray(next, i%8)
		n, e := Eval(s, some())
		if e == api.ErrSyntax || e == api.ErrDeep {
			t.Fatalf("%q can be read", s)
		}
		for _, around := range []string{"(" + s + ")", " ( " + s + " ) ", "((" + s + "))", "(\n(\t( " + s + " )\t)\n)", " " + s + "\n"} {
			if m, f := Eval(around, some()); m != n || f != e {
				t.Fatalf("%q: %d, %d, not %d, %d", around, m, f, n, e)
			}
		}
	}
}

// P10.1: no memory is kept between calls, and what is handed in stays as it is.
func TestNoMemory(t *testing.T) {
	vars := some()
	texts := []string{"1+2", "1/0", "x", "a*a", "(", "1||x", strings.Repeat("(", 31), "0&&", "most+1", "9223372036854775808", "a", "-", strings.Repeat("-", 30) + "1", "(1||x)+x", "!(0&&1/0)"}
	for _, a := range texts {
		for _, b := range texts {
			n, e := Eval(b, vars)
			for range 2 {
				Eval(a, vars)
				if m, f := Eval(b, vars); m != n || f != e {
					t.Fatalf("Eval(%q) behind %q: %d, %d, not %d, %d", b, a, m, f, n, e)
				}
			}
		}
	}
	if !slices.Equal(vars, some()) {
		t.Error("the row was changed")
	}
	// A value that was set counts at once.
	for _, value := range []string{"7", "x", "", "8"} {
		want, wantE := secondEval("a+1", Set(vars, "a", value))
		if n, e := Eval("a+1", Set(vars, "a", value)); n != want || e != wantE {
			t.Errorf("%q: %d, %d", value, n, e)
		}
	}
	if n, e := Eval("a", vars); n != 5 || e != api.OK {
		t.Error(n, e)
	}
}

// P10.1: long texts.
func TestLong(t *testing.T) {
	const many = 200000
	for s, want := range map[string]int64{
		"0" + strings.Repeat("+1", many):                            many,
		"0" + strings.Repeat("-1", many):                            -many,
		"1" + strings.Repeat("*3", many):                            power(3, many),
		strings.Repeat("0||", many) + "1":                           1,
		strings.Repeat("1&&", many) + "0":                           0,
		"1" + strings.Repeat("||x", many):                           1,
		"0" + strings.Repeat("&&1/0", many):                         0,
		strings.Repeat(" \n\t", many) + "7":                         7,
		"7" + strings.Repeat(" \n\t", many):                         7,
		strings.Repeat("0", many) + "7":                             7,
		"1+" + strings.Repeat("A0_z", many) + "*2":                  1,
		strings.Repeat("(a)*-(2)-", many) + "0":                     10 * (many - 2),
		"0" + strings.Repeat("==1", many):                           0,
		"most" + strings.Repeat("/1%most+1", 3):                     3,
		strings.Repeat("1<", many) + "1":                            1,
		strings.Repeat("(1)*(", 30) + "1" + strings.Repeat(")", 30): 1,
	} {
		comes(t, s, want)
	}
	refused(t, strings.Repeat("0+", many), api.ErrSyntax)
	refused(t, "1/0"+strings.Repeat("+1", many)+")", api.ErrSyntax)
	refused(t, strings.Repeat("(", many), api.ErrDeep)
	refused(t, strings.Repeat("-", many), api.ErrDeep)
	refused(t, strings.Repeat("1+", many)+"x", api.ErrForm)
}

// power is a number many times itself, round at 2^64.
func power(n int64, many int) int64 {
	p := int64(1)
	for range many {
		p *= n
	}
	return p
}
