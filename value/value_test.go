package value

import (
	"math"
	"math/big"
	"regexp"
	"strings"
	"testing"

	"dragoman/api"
)

const (
	most  = math.MaxInt64
	least = math.MinInt64

	// mostText and leastText are those numbers' texts, overText and underText the next ones'.
	mostText  = "9223372036854.775807"
	leastText = "-9223372036854.775808"
	overText  = "9223372036854.775808"
	underText = "-9223372036854.775809"
)

// row is a row of numbers that look stray, but are the same in each run.
func row(seed uint64) func() uint64 {
	return func() uint64 {
		seed = seed*6364136223846793005 + 1442695040888963407
		x := seed ^ seed>>29
		return x ^ x<<17
	}
}

var (
	whole     = regexp.MustCompile(`\A[ \t]*([+-]?(?:[0-9]+\.?[0-9]*|\.[0-9]+))[ \t]*\z`)
	beginning = regexp.MustCompile(`\A[ \t]*([+-]?(?:[0-9]+\.?[0-9]*|\.[0-9]+))`)
)

var oneMillion = big.NewInt(1000000)

// millions is a numeral's number a million times, in whole numbers of any size.
func millions(numeral string) *big.Int {
	n, ok := new(big.Rat).SetString(strings.TrimSuffix(numeral, "."))
	if !ok {
		panic(numeral)
	}
	n.Mul(n, new(big.Rat).SetInt(oneMillion))
	return new(big.Int).Quo(n.Num(), n.Denom())
}

// wantLooks is what Looks must answer.
func wantLooks(s string) (api.Dec, bool) {
	m := whole.FindStringSubmatch(s)
	if m == nil {
		return 0, false
	}
	n := millions(m[1])
	if !n.IsInt64() {
		return 0, false
	}
	return n.Int64(), true
}

// wantNumber is what Number must answer.
func wantNumber(s string) (api.Dec, api.Errno) {
	m := beginning.FindStringSubmatch(s)
	if m == nil {
		return 0, api.OK
	}
	return fits(millions(m[1]))
}

// fits is a whole number as an int64, or that it is none.
func fits(n *big.Int) (int64, api.Errno) {
	if !n.IsInt64() {
		return 0, api.ErrOver
	}
	return n.Int64(), api.OK
}

// wantCompare is what Compare must answer.
func wantCompare(a, b string) int {
	x, isX := wantLooks(a)
	y, isY := wantLooks(b)
	if isX && isY {
		return big.NewInt(x).Cmp(big.NewInt(y))
	}
	for i := range min(len(a), len(b)) {
		if a[i] != b[i] {
			return big.NewInt(int64(a[i])).Cmp(big.NewInt(int64(b[i])))
		}
	}
	return big.NewInt(int64(len(a))).Cmp(big.NewInt(int64(len(b))))
}

// wantReckon is what Reckon must answer.
func wantReckon(op byte, a, b string) (string, api.Errno) {
	if op != '+' && op != '-' && op != '*' && op != '/' && op != '%' {
		return "", api.ErrArg
	}
	x, ex := wantNumber(a)
	y, ey := wantNumber(b)
	if ex != api.OK {
		return "", ex
	}
	if ey != api.OK {
		return "", ey
	}
	p, q, n := big.NewInt(x), big.NewInt(y), new(big.Int)
	if (op == '/' || op == '%') && y == 0 {
		return "", api.ErrZero
	}
	switch op {
	case '+':
		n.Add(p, q)
	case '-':
		n.Sub(p, q)
	case '*':
		n.Quo(n.Mul(p, q), oneMillion)
	case '/':
		n.Quo(n.Mul(p, oneMillion), q)
	case '%':
		n.Rem(p, q)
	}
	if !n.IsInt64() {
		return "", api.ErrOver
	}
	s := new(big.Rat).SetFrac(n, oneMillion).FloatString(6)
	return strings.TrimSuffix(strings.TrimRight(s, "0"), "."), api.OK
}

// texts are ordinary texts, edges and their neighbours, and some that look stray.
func texts() []string {
	l := []string{
		// Such as look like numbers.
		"0", "-0", "+0", "0.0", "-0.000", " 0 ", "00", ".0", "0.", "-.0", "0.0000001", "-0.0000009", "1", "1.0", "01", "+1", " 1", "1\t", "1.", "-1", "2", "9", "9.0", "10", "3.5", "-1.5", ".5", "-.5", "0.1", "0.000001", "-0.000001", "-0.999999", "7", "-7", "255", "256", "257", "-255", "-256", "-257", "65536", "123456789", "3037000.499976", "-3037000.499977", "1.9999999",
		mostText, leastText, " " + mostText, leastText + "9\t", "9223372036854.775806", "-9223372036854.775807", "9223372036854", "-9223372036854",
		// Such as don't.
		"", " ", "\t", " \t ", "+", "-", ".", "-.", "x", "a", "ab", "abc", "ac", "A", "0x", "00x", "0 0", "1x", "1 x", "1 2", "10x", "9a", "1e5", "1,5", "1.5.", "1..5", "--1", "- 1", "\n1", "1\n", "1\x00", "\x00", "\x00\x00", "\x7f", "\x80", "\xff", "\xff\xff", "é", "1é", "nan", "inf", "0x10", "1\u00a0", "２",
		overText, underText, " " + overText + " ", underText + "x", "99999999999999", "-99999999999999", "18446744073709.551617", "99999999999999x",
		strings.Repeat("9", 300), strings.Repeat("0", 300) + "7", strings.Repeat("ab", 2500), strings.Repeat("ab", 2500) + "\x00",
	}
	const of = " \t+-.019x\xff"
	next := row(4)
	for i := range 60 {
		b := make([]byte, i%7)
		for k := range b {
			b[k] = of[next()%uint64(len(of))]
		}
		l = append(l, string(b))
	}
	return l
}

// P3.1: a numeral, with spaces and tabs on both sides, or not, that isn't too great, and nothing else.
func TestLooks(t *testing.T) {
	for _, x := range []struct {
		s  string
		n  api.Dec
		is bool
	}{
		// Ordinary ones.
		{"1", 1000000, true},
		{"-1.50", -1500000, true},
		{"+1.5", 1500000, true},
		{"3.", 3000000, true},
		{".5", 500000, true},
		{"-.5", -500000, true},
		{"007", 7000000, true},
		{"1.9999999", 1999999, true},
		// Noughts, with a sign, and with figures behind the point.
		{"0", 0, true},
		{"-0", 0, true},
		{"+0", 0, true},
		{"0.0", 0, true},
		{"-0.000000000", 0, true},
		{".0", 0, true},
		{"0.", 0, true},
		{"0.0000009", 0, true},
		{"-0.0000009", 0, true},
		// Spaces and tabs ahead, behind, and on both sides.
		{" 1", 1000000, true},
		{"\t1", 1000000, true},
		{" \t \t1", 1000000, true},
		{"1 ", 1000000, true},
		{"1\t", 1000000, true},
		{"1\t \t ", 1000000, true},
		{" 1 ", 1000000, true},
		{"\t \t-.5\t \t", -500000, true},
		{strings.Repeat(" ", 5000) + "2" + strings.Repeat("\t", 5000), 2000000, true},
		// Nothing but them.
		{"", 0, false},
		{" ", 0, false},
		{"\t", 0, false},
		{" \t \t", 0, false},
		// Another byte behind.
		{"1x", 0, false},
		{"1 x", 0, false},
		{"1 \tx", 0, false},
		{"1x ", 0, false},
		{"1 2", 0, false},
		{"1\n", 0, false},
		{"1 \n", 0, false},
		{"1\r", 0, false},
		{"1\x00", 0, false},
		{"1\u00a0", 0, false},
		{"1\xff", 0, false},
		{"1.5.", 0, false},
		{"1..5", 0, false},
		{"1.-5", 0, false},
		{"1-", 0, false},
		{"1+1", 0, false},
		{"1e5", 0, false},
		{"0x10", 0, false},
		{"1,5", 0, false},
		// No numeral.
		{"x", 0, false},
		{"x1", 0, false},
		{"+", 0, false},
		{"-", 0, false},
		{".", 0, false},
		{"-.", 0, false},
		{" - ", 0, false},
		{"- 1", 0, false},
		{"--1", 0, false},
		{"+-1", 0, false},
		{"\n1", 0, false},
		{"nan", 0, false},
		{"inf", 0, false},
		// Next to the bounds.
		{mostText, most, true},
		{" " + mostText + "9\t", most, true},
		{leastText, least, true},
		{"\t" + leastText + "9 ", least, true},
		{overText, 0, false},
		{" " + overText, 0, false},
		{overText + " ", 0, false},
		{underText, 0, false},
		{"9223372036855", 0, false},
		{"99999999999999", 0, false},
		{"-99999999999999", 0, false},
		{"18446744073709.551616", 0, false},
		{"18446744073709.551617", 0, false},
		{strings.Repeat("9", 5000), 0, false},
		{strings.Repeat("0", 5000) + "8", 8000000, true},
	} {
		if n, is := Looks(x.s); n != x.n || is != x.is {
			t.Errorf("Looks(%.40q): %d %t, not %d %t", x.s, n, is, x.n, x.is)
		}
	}
}

// P3.1: short texts of the bytes that numerals are made of, and some others, and all texts.
func TestLooksAll(t *testing.T) {
	const of = " \t+-.09x"
	l := []string{""}
	for at := 0; len(l[at]) < 5; at++ {
		for i := range len(of) {
			l = append(l, l[at]+of[i:i+1])
		}
	}
	for _, s := range append(l, texts()...) {
		n, is := Looks(s)
		if want, wantIs := wantLooks(s); n != want || is != wantIs {
			t.Fatalf("Looks(%.40q): %d %t, not %d %t", s, n, is, want, wantIs)
		}
		n, e := Number(s)
		if want, wantE := wantNumber(s); n != want || e != wantE {
			t.Fatalf("Number(%.40q): %d %d, not %d %d", s, n, e, want, wantE)
		}
	}
}

// P3.1: each byte by itself, ahead of a numeral, behind it, and behind a blank behind it.
func TestLooksBytes(t *testing.T) {
	for c := range 256 {
		b := string([]byte{byte(c)})
		figure := '0' <= c && c <= '9'
		blank := c == ' ' || c == '\t'
		for s, want := range map[string]bool{
			b:        figure,
			b + "1":  figure || blank || c == '+' || c == '-' || c == '.',
			"1" + b:  figure || blank || c == '.',
			"1 " + b: blank,
		} {
			if _, is := Looks(s); is != want {
				t.Errorf("Looks(%q): %t", s, is)
			}
		}
	}
}

// P3.1: the number that a text begins with, 0 where there is none, the error where it is too great.
func TestNumber(t *testing.T) {
	for _, x := range []struct {
		s string
		n api.Dec
		e api.Errno
	}{
		{"12", 12000000, api.OK},
		{"-1.50x", -1500000, api.OK},
		{" \t+.5 6", 500000, api.OK},
		{"1e5", 1000000, api.OK},
		{"1.0000009", 1000000, api.OK},
		{"0", 0, api.OK},
		{"-0.0x", 0, api.OK},
		// Without a numeral.
		{"", 0, api.OK},
		{" \t", 0, api.OK},
		{"abc", 0, api.OK},
		{"x1", 0, api.OK},
		{"-", 0, api.OK},
		{"+.", 0, api.OK},
		{"- 1", 0, api.OK},
		{"\n1", 0, api.OK},
		{"\xff1", 0, api.OK},
		{"x99999999999999", 0, api.OK},
		// Next to the bounds.
		{mostText, most, api.OK},
		{mostText + "9x", most, api.OK},
		{leastText, least, api.OK},
		{leastText + "9x", least, api.OK},
		{overText, 0, api.ErrOver},
		{overText + "x", 0, api.ErrOver},
		{underText, 0, api.ErrOver},
		{" 99999999999999 x", 0, api.ErrOver},
		{"-99999999999999", 0, api.ErrOver},
		{"18446744073709.551617", 0, api.ErrOver},
		{strings.Repeat("9", 5000), 0, api.ErrOver},
	} {
		if n, e := Number(x.s); n != x.n || e != x.e {
			t.Errorf("Number(%.40q): %d %d, not %d %d", x.s, n, e, x.n, x.e)
		}
	}
}

// P3.1: what looks like a number is yes unless that is 0, all else unless it has no bytes.
func TestTruth(t *testing.T) {
	for s, want := range map[string]bool{
		// Like numbers.
		"0": false, "-0": false, "+0": false, "00": false, "0.0": false, "-0.000": false, ".0": false, "0.": false, " 0 ": false, "\t-0.0\t": false, " 0.0 ": false, "0.0000009": false, "-0.0000009": false,
		"1": true, "-1": true, "0.1": true, "0.000001": true, "-0.000001": true, " 1 ": true, mostText: true, leastText: true,
		// Not like numbers.
		"":  false,
		" ": true, "\t": true, "00x": true, "0x": true, "0 0": true, "0\n": true, "\x00": true, "-": true, ".": true, "a": true, "no": true, "false": true, "\xff": true, overText: true, underText: true, "99999999999999": true,
	} {
		if got := Truth(s); got != want {
			t.Errorf("Truth(%q): %t", s, got)
		}
	}
	for _, s := range texts() {
		want := s != ""
		if n, is := wantLooks(s); is {
			want = n != 0
		}
		if got := Truth(s); got != want {
			t.Errorf("Truth(%.40q): %t", s, got)
		}
	}
}

// P3.1: 1, or 0, which are yes, and no.
func TestOf(t *testing.T) {
	if yes, no := Of(true), Of(false); yes != "1" || no != "0" {
		t.Errorf("Of: %q %q", yes, no)
	}
	for _, is := range []bool{false, true} {
		if Truth(Of(is)) != is {
			t.Errorf("Truth(Of(%t))", is)
		}
	}
}

// P3.2: by numbers, if both look like such, else byte by byte.
func TestCompare(t *testing.T) {
	for _, x := range []struct {
		a, b string
		n    int
	}{
		// Both like numbers.
		{"2", "10", -1},
		{"10", "9.0", 1},
		{"-2", "-10", 1},
		{"-1", "1", -1},
		{"0.1", "0.09", 1},
		{"0.000001", "0", 1},
		{"-0.000001", "0", -1},
		// The same number, in two spellings.
		{"1", "1", 0},
		{"1.0", "1", 0},
		{"1.", "+01", 0},
		{" 1", "1\t", 0},
		{"0", "-0.0", 0},
		{"-0", "+0", 0},
		{".5", "0.500", 0},
		{"1.0000001", "1.0000009", 0},
		{"0.0000009", "-0.0000009", 0},
		{mostText, mostText + "9", 0},
		// One that looks like a number, one that doesn't.
		{"10", "9a", -1},
		{"2", "10x", 1},
		{"1", "1x", -1},
		{"1x", "1", 1},
		{"", "0", -1},
		{"0", "", 1},
		{"", "-1", -1},
		{" ", "0", -1},
		{" 5", "\n", 1},
		{"9", "a", -1},
		{"-1", "+", 1},
		{"1", "1 2", -1},
		// Neither.
		{"", "", 0},
		{"a", "a", 0},
		{"a", "b", -1},
		{"b", "a", 1},
		{"B", "a", -1},
		{"10x", "9x", -1},
		{"1.0x", "1x", -1},
		{"", "\x00", -1},
		{"", " ", -1},
		{"+", "-", -1},
		// One goes on from another.
		{"a", "ab", -1},
		{"ab", "a", 1},
		{"ab", "ac", -1},
		{"b", "ab", 1},
		{"a", "a\x00", -1},
		{"abc", "abd", -1},
		// Bytes above 127.
		{"z", "\x80", -1},
		{"\x7f", "\x80", -1},
		{"\xff", "\x00", 1},
		{"\xff", "\xfe", 1},
		{"é", "z", 1},
		{"9", "\xff", -1},
		{"\xc3", "é", -1},
		{"\U0001f600", "\uffff", 1},
		// The bounds, far from each other.
		{mostText, leastText, 1},
		{leastText, mostText, -1},
		{leastText, leastText, 0},
		{leastText, "0.000001", -1},
		{mostText, "-1", 1},
		// Too great: no longer by numbers, alone or both.
		{overText, "1", 1},
		{overText, "91", 1},
		{"99999999999999", "9999", 1},
		{"99999999999999", mostText, 1},
		{"10000000000000", "9", -1},
		{"9", "10000000000000", 1},
		{"10000000000000", "99999999999999", -1},
		{"99999999999999", "100000000000000", 1},
		{"099999999999999", "99999999999999", -1},
		{"99999999999999", "99999999999999", 0},
		{"-99999999999999", "5", -1},
		{"-10000000000000", "-99999999999999", -1},
	} {
		if n := Compare(x.a, x.b); n != x.n {
			t.Errorf("Compare(%q, %q): %d, not %d", x.a, x.b, n, x.n)
		}
	}
}

// P3.2: each text against each.
func TestCompareAll(t *testing.T) {
	for _, a := range texts() {
		for _, b := range texts() {
			if n, want := Compare(a, b), wantCompare(a, b); n != want {
				t.Fatalf("Compare(%.40q, %.40q): %d, not %d", a, b, n, want)
			}
		}
	}
}

// P3.3: each operation, and each operation's errors.
func TestReckon(t *testing.T) {
	for _, x := range []struct {
		op      byte
		a, b, s string
		e       api.Errno
	}{
		// Ordinary ones.
		{'+', "1", "2", "3", api.OK},
		{'+', "1.5x", " 2", "3.5", api.OK},
		{'+', "-1.25", "1.25", "0", api.OK},
		{'-', "1", "2.5", "-1.5", api.OK},
		{'-', "0", "0.000001", "-0.000001", api.OK},
		{'*', "1.5", "-2", "-3", api.OK},
		{'*', "0.001", "0.0001", "0", api.OK},
		{'/', "1", "3", "0.333333", api.OK},
		{'/', "-2", "3", "-0.666666", api.OK},
		{'/', "9.", ".5", "18", api.OK},
		{'%', "7", "-2", "1", api.OK},
		{'%', "-7.5", "2", "-1.5", api.OK},
		{'%', "0.5", "0.2", "0.1", api.OK},
		// Texts without a numeral are 0.
		{'+', "", "", "0", api.OK},
		{'+', "abc", "\t-", "0", api.OK},
		{'-', "abc", "1", "-1", api.OK},
		{'-', "1", "abc", "1", api.OK},
		{'*', "7", "x7", "0", api.OK},
		{'/', "x", "7", "0", api.OK},
		{'%', " ", "7", "0", api.OK},
		// Divided by nothing.
		{'/', "1", "0", "", api.ErrZero},
		{'/', "1", "", "", api.ErrZero},
		{'/', "0", "-0.0", "", api.ErrZero},
		{'/', "1", "abc", "", api.ErrZero},
		{'/', leastText, "0.0000009", "", api.ErrZero},
		{'%', "1", "0", "", api.ErrZero},
		{'%', "", "", "", api.ErrZero},
		{'%', mostText, " x", "", api.ErrZero},
		// At the bounds, and past them.
		{'+', mostText, "0", mostText, api.OK},
		{'+', mostText, "0.000001", "", api.ErrOver},
		{'+', mostText, leastText, "-0.000001", api.OK},
		{'+', leastText, "-0.000001", "", api.ErrOver},
		{'+', leastText, leastText, "", api.ErrOver},
		{'-', leastText, "0", leastText, api.OK},
		{'-', leastText, "0.000001", "", api.ErrOver},
		{'-', "0", leastText, "", api.ErrOver},
		{'-', "-0.000001", leastText, mostText, api.OK},
		{'-', mostText, "-0.000001", "", api.ErrOver},
		{'*', mostText, "1", mostText, api.OK},
		{'*', leastText, "1", leastText, api.OK},
		{'*', leastText, "-1", "", api.ErrOver},
		{'*', mostText, "-1", "-" + mostText, api.OK},
		{'*', "9999999999", "9999999999", "", api.ErrOver},
		{'/', leastText, "1", leastText, api.OK},
		{'/', leastText, "-1", "", api.ErrOver},
		{'/', mostText, "0.5", "", api.ErrOver},
		{'/', leastText, leastText, "1", api.OK},
		{'%', leastText, "-0.000001", "0", api.OK},
		{'%', leastText, mostText, "-0.000001", api.OK},
		{'%', mostText, leastText, mostText, api.OK},
	} {
		if s, e := Reckon(x.op, x.a, x.b); s != x.s || e != x.e {
			t.Errorf("Reckon(%q, %q, %q): %q %d, not %q %d", x.op, x.a, x.b, s, e, x.s, x.e)
		}
	}
}

// P3.3: the error of the first text, of the second, of both, ahead of the operation's own.
func TestReckonRefuses(t *testing.T) {
	for _, op := range []byte("+-*/%") {
		for _, x := range [][2]string{
			{overText, "1"}, {underText + "x", "1"}, {"99999999999999", "0"}, {overText, ""}, {overText, mostText},
			{"1", overText}, {"", underText}, {mostText, "99999999999999x"}, {"x", " -99999999999999"},
			{overText, overText}, {overText, underText}, {underText, "99999999999999"},
		} {
			if s, e := Reckon(op, x[0], x[1]); s != "" || e != api.ErrOver {
				t.Errorf("Reckon(%q, %q, %q): %q %d", op, x[0], x[1], s, e)
			}
		}
	}
}

// P3.3: a byte that is no operation is refused ahead of all else.
func TestReckonOperations(t *testing.T) {
	for c := range 256 {
		want := api.ErrArg
		if strings.IndexByte("+-*/%", byte(c)) >= 0 {
			want = api.OK
		}
		if _, e := Reckon(byte(c), "7", "2"); e != want {
			t.Errorf("Reckon(%q): %d", byte(c), e)
		}
		if want == api.OK {
			continue
		}
		for _, x := range [][2]string{{"7", "2"}, {"7", "0"}, {overText, "1"}, {"1", overText}, {overText, underText}, {"", ""}} {
			if s, e := Reckon(byte(c), x[0], x[1]); s != "" || e != api.ErrArg {
				t.Errorf("Reckon(%q, %q, %q): %q %d", byte(c), x[0], x[1], s, e)
			}
		}
	}
}

// P3.3, P3.4: each text with each, in whole numbers of any size; what is reckoned looks like a number.
func TestReckonAll(t *testing.T) {
	for _, op := range []byte("+-*/%^") {
		for _, a := range texts() {
			for _, b := range texts() {
				s, e := Reckon(op, a, b)
				if want, wantE := wantReckon(op, a, b); s != want || e != wantE {
					t.Fatalf("Reckon(%q, %.40q, %.40q): %q %d, not %q %d", op, a, b, s, e, want, wantE)
				}
				if _, is := Looks(s); is != (e == api.OK) {
					t.Fatalf("Looks(%q): %t", s, is)
				}
			}
		}
	}
}

// P3.3: the whole part's rest by 256, from 0 to 255.
func TestLow(t *testing.T) {
	for _, x := range []struct {
		s string
		n int
		e api.Errno
	}{
		{"0", 0, api.OK},
		{"1", 1, api.OK},
		{"3.9", 3, api.OK},
		{" 7x", 7, api.OK},
		{"255", 255, api.OK},
		{"255.999999", 255, api.OK},
		{"256", 0, api.OK},
		{"257", 1, api.OK},
		{"300", 44, api.OK},
		{"511.5", 255, api.OK},
		{"512", 0, api.OK},
		// Below 0; the whole part is that towards it.
		{"-0", 0, api.OK},
		{"-0.999999", 0, api.OK},
		{"-1", 255, api.OK},
		{"-1.9", 255, api.OK},
		{"-2", 254, api.OK},
		{"-255", 1, api.OK},
		{"-255.9", 1, api.OK},
		{"-256", 0, api.OK},
		{"-256.9", 0, api.OK},
		{"-257", 255, api.OK},
		{"-512", 0, api.OK},
		// Without a numeral.
		{"", 0, api.OK},
		{" \t", 0, api.OK},
		{"x300", 0, api.OK},
		{"-", 0, api.OK},
		// The bounds, and past them.
		{mostText, 246, api.OK},
		{leastText, 10, api.OK},
		{overText, 0, api.ErrOver},
		{underText, 0, api.ErrOver},
		{"99999999999999x", 0, api.ErrOver},
	} {
		if n, e := Low(x.s); n != x.n || e != x.e {
			t.Errorf("Low(%q): %d %d, not %d %d", x.s, n, e, x.n, x.e)
		}
	}
	for _, s := range texts() {
		number, wantE := wantNumber(s)
		want := new(big.Int).Quo(big.NewInt(number), oneMillion)
		want.Mod(want, big.NewInt(256))
		if n, e := Low(s); int64(n) != want.Int64() || e != wantE {
			t.Errorf("Low(%.40q): %d %d, not %d %d", s, n, e, want, wantE)
		}
	}
}

// P3.4: comparing turns round, and a text is the same as itself.
func TestCompareTurnsRound(t *testing.T) {
	for _, a := range texts() {
		if n := Compare(a, a); n != 0 {
			t.Fatalf("Compare(%.40q) with itself: %d", a, n)
		}
		for _, b := range texts() {
			if there, back := Compare(a, b), Compare(b, a); there != -back {
				t.Fatalf("Compare(%.40q, %.40q): %d, and back %d", a, b, there, back)
			}
		}
	}
}

// P3.4: comparing goes on, among texts that look like numbers, and among those that don't. (Among both it can't, by P3.2: 2 is below 10, 10 below 10x, and that below 2.)
func TestCompareGoesOn(t *testing.T) {
	for _, like := range []bool{false, true} {
		var l []string
		for _, s := range texts() {
			if _, is := wantLooks(s); is == like {
				l = append(l, s)
			}
		}
		for _, a := range l {
			for _, b := range l {
				for _, c := range l {
					ab, bc := Compare(a, b), Compare(b, c)
					if ab > 0 || bc > 0 {
						continue
					}
					if n := Compare(a, c); n != min(ab, bc) {
						t.Fatalf("Compare of %.40q, %.40q, %.40q: %d %d, and %d", a, b, c, ab, bc, n)
					}
				}
			}
		}
	}
}
