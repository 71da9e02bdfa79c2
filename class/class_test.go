package class

import (
	"regexp"
	"strconv"
	"strings"
	"testing"

	"dragoman/api"
)

// row is a row of numbers that look stray, but are the same in each run.
func row(seed uint64) func() uint64 {
	return func() uint64 {
		seed = seed*6364136223846793005 + 1442695040888963407
		x := seed ^ seed>>29
		return x ^ x<<17
	}
}

// set is a class, as a row of yes and no.
type set [256]bool

// setOf is the set of bytes of a text.
func setOf(s string) set {
	var m set
	for i := range len(s) {
		m[s[i]] = true
	}
	return m
}

// span is the set of bytes from one to another one.
func span(a, b int) set {
	var m set
	for c := a; c <= b; c++ {
		m[c] = true
	}
	return m
}

// joined is the set of what is in one of some.
func joined(l ...set) set {
	var m set
	for _, x := range l {
		for c := range x {
			m[c] = m[c] || x[c]
		}
	}
	return m
}

// turned is the set of all others.
func turned(m set) set {
	for c := range m {
		m[c] = !m[c]
	}
	return m
}

// count is how many are in a set.
func count(m set) int {
	n := 0
	for _, in := range m {
		if in {
			n++
		}
	}
	return n
}

// classOf is a set as a class, as package api says what that is.
func classOf(m set) api.Class {
	var k api.Class
	for c, in := range m {
		if in {
			k[c/64] |= 1 << (c % 64)
		}
	}
	return k
}

// sets are ordinary sets, edges and their neighbours, and some that look stray.
func sets() []set {
	l := []set{{}, turned(set{}), setOf("abc/"), setOf("az"), setOf("\n\\][^-"), setOf("\x00\xff"), joined(span('0', '9'), span('A', 'F'), span('a', 'f')), span(1, 255), span(0, 254)}
	for _, at := range []int{1, 64, 128, 192, 254} {
		l = append(l, span(at-1, at), span(at-1, at+1), span(0, at-1), span(at, 255), joined(span(0, at-1), span(at+1, 255)))
	}
	for c := range 256 {
		l = append(l, span(c, c))
	}
	next := row(5)
	for i := range 300 {
		var m set
		for c := range m {
			// Of some there are few, of some many, of some long runs.
			switch n := next(); i % 4 {
			case 0:
				m[c] = n%2 == 0
			case 1:
				m[c] = n%40 == 0
			case 2:
				m[c] = n%40 != 0
			case 3:
				m[c] = c > 0 && m[c-1] != (n%8 == 0)
			}
		}
		l = append(l, m)
	}
	return l
}

// P4.1: a byte alone.
func TestOne(t *testing.T) {
	for c := range 256 {
		if k := One(byte(c)); k != classOf(span(c, c)) {
			t.Errorf("One(%d): %x", c, k)
		}
	}
}

// P4.1: all from one to another one, both with them, and none, if the first one is above the second one.
func TestSpan(t *testing.T) {
	for _, x := range []struct {
		a, b byte
		n    int
	}{
		{'a', 'a', 1}, {'a', 'b', 2}, {'a', 'c', 3}, {'c', 'a', 0}, {'b', 'a', 0},
		{0, 0, 1}, {255, 255, 1}, {0, 255, 256}, {255, 0, 0}, {0, 254, 255}, {1, 255, 255}, {1, 0, 0}, {255, 254, 0},
		{63, 64, 2}, {62, 63, 2}, {64, 65, 2}, {0, 63, 64}, {64, 127, 64}, {0, 64, 65}, {63, 127, 65},
		{127, 128, 2}, {128, 191, 64}, {191, 192, 2}, {192, 255, 64}, {63, 192, 130}, {64, 63, 0}, {128, 127, 0}, {192, 191, 0}, {192, 63, 0},
	} {
		if n := Count(Span(x.a, x.b)); n != x.n {
			t.Errorf("Span(%d, %d): %d bytes, not %d", x.a, x.b, n, x.n)
		}
	}
	for a := range 256 {
		for b := range 256 {
			if k := Span(byte(a), byte(b)); k != classOf(span(a, b)) {
				t.Errorf("Span(%d, %d): %x", a, b, k)
			}
		}
	}
}

// P4.1: what is in a class, how many there are, and what is in the others.
func TestHasCountNot(t *testing.T) {
	for _, m := range sets() {
		k := classOf(m)
		others := Not(k)
		for c := range 256 {
			if in := Has(k, byte(c)); in != m[c] {
				t.Errorf("Has(%x, %d): %t", k, c, in)
			}
			// P4.4: what is not in a class is in the others.
			if in := Has(others, byte(c)); in == m[c] {
				t.Errorf("Has(Not(%x), %d): %t", k, c, in)
			}
		}
		if n := Count(k); n != count(m) {
			t.Errorf("Count(%x): %d", k, n)
		}
		if n := Count(others); n != 256-count(m) {
			t.Errorf("Count(Not(%x)): %d", k, n)
		}
		if others != classOf(turned(m)) {
			t.Errorf("Not(%x): %x", k, others)
		}
		if again := Not(others); again != k {
			t.Errorf("Not(Not(%x)): %x", k, again)
		}
	}
	if n := Count(api.Class{}); n != 0 {
		t.Errorf("Count of none: %d", n)
	}
	if n := Count(Not(api.Class{})); n != 256 {
		t.Errorf("Count of all: %d", n)
	}
}

// P4.1: the bytes of one, and of the other.
func TestOr(t *testing.T) {
	l := sets()
	for i, m := range l {
		for _, o := range l[i%7:] {
			k, j := classOf(m), classOf(o)
			if got := Or(k, j); got != classOf(joined(m, o)) {
				t.Fatalf("Or(%x, %x): %x", k, j, got)
			}
			// R3: what was handed in is as it was.
			if k != classOf(m) || j != classOf(o) {
				t.Fatalf("Or wrote into %x or %x", k, j)
			}
		}
		if k := classOf(m); Or(k, Not(k)) != classOf(turned(set{})) || Or(k, api.Class{}) != k || Or(api.Class{}, k) != k || Or(k, k) != k {
			t.Errorf("Or of %x with the others, with none, with itself", k)
		}
	}
}

// asItIs is what Plain tells as it is.
const asItIs = "ABCDEFGHIJKLMNOPQRSTUVWXYZabcdefghijklmnopqrstuvwxyz0123456789 _"

// wantPlain is what Plain tells.
func wantPlain(c byte) string {
	if strings.IndexByte(asItIs, c) >= 0 {
		return string([]byte{c})
	}
	digits := strconv.FormatInt(int64(c), 16)
	return `\x` + strings.Repeat("0", 2-len(digits)) + digits
}

// P4.1: a letter, a figure, a blank or _ as it is, else its two digits.
func TestPlain(t *testing.T) {
	for c, want := range map[byte]string{
		'a': "a", 'z': "z", 'A': "A", 'Z': "Z", '0': "0", '9': "9", ' ': " ", '_': "_",
		'@': `\x40`, '[': `\x5b`, '`': `\x60`, '{': `\x7b`, '/': `\x2f`, ':': `\x3a`, '^': `\x5e`,
		0: `\x00`, '\t': `\x09`, '\n': `\x0a`, '\\': `\x5c`, ']': `\x5d`, '-': `\x2d`, '.': `\x2e`, '$': `\x24`, '\'': `\x27`, 127: `\x7f`, 128: `\x80`, 0xe9: `\xe9`, 255: `\xff`,
	} {
		if got := Plain(c); got != want {
			t.Errorf("Plain(%d): %s, not %s", c, got, want)
		}
	}
	for n := range 256 {
		c := byte(n)
		plain := Plain(c)
		if want := wantPlain(c); plain != want {
			t.Errorf("Plain(%d): %s, not %s", c, plain, want)
		}
		// P4.4: read again as a sign, it is that byte.
		for _, behind := range []string{"", "0", "]", "-", "\n"} {
			if got, used, e := Sign(plain + behind); got != c || used != len(plain) || e != api.OK {
				t.Errorf("Sign(%q): %d %d %d", plain+behind, got, used, e)
			}
		}
	}
}

// P4.2: the sign that a text begins with.
func TestSign(t *testing.T) {
	for _, x := range []struct {
		s    string
		c    byte
		used int
		e    api.Errno
	}{
		// A byte as it is.
		{"a", 'a', 1, api.OK},
		{"ab", 'a', 1, api.OK},
		{"x", 'x', 1, api.OK},
		{"x41", 'x', 1, api.OK},
		{" ", ' ', 1, api.OK},
		{".", '.', 1, api.OK},
		{"$", '$', 1, api.OK},
		{"/", '/', 1, api.OK},
		{"\t", '\t', 1, api.OK},
		{"\r", '\r', 1, api.OK},
		{"\x00", 0, 1, api.OK},
		{"\x80", 128, 1, api.OK},
		{"\xff", 255, 1, api.OK},
		{"é", 0xc3, 1, api.OK},
		{"a\n", 'a', 1, api.OK},
		{"a\\", 'a', 1, api.OK},
		// Those that may not be as they are.
		{"", 0, 0, api.ErrForm},
		{"\n", 0, 0, api.ErrForm},
		{"\na", 0, 0, api.ErrForm},
		{`\`, 0, 0, api.ErrForm},
		{"]", 0, 0, api.ErrForm},
		{"]a", 0, 0, api.ErrForm},
		{"[", 0, 0, api.ErrForm},
		{"[a]", 0, 0, api.ErrForm},
		{"^", 0, 0, api.ErrForm},
		{"-", 0, 0, api.ErrForm},
		{"-a", 0, 0, api.ErrForm},
		// Behind a \.
		{`\\`, '\\', 2, api.OK},
		{`\\x41`, '\\', 2, api.OK},
		{`\]`, ']', 2, api.OK},
		{`\[`, '[', 2, api.OK},
		{`\^`, '^', 2, api.OK},
		{`\-`, '-', 2, api.OK},
		{`\/`, '/', 2, api.OK},
		{`\.`, '.', 2, api.OK},
		{`\*`, '*', 2, api.OK},
		{`\+`, '+', 2, api.OK},
		{`\?`, '?', 2, api.OK},
		{`\(`, '(', 2, api.OK},
		{`\)`, ')', 2, api.OK},
		{`\|`, '|', 2, api.OK},
		{`\{`, '{', 2, api.OK},
		{`\}`, '}', 2, api.OK},
		{`\$`, '$', 2, api.OK},
		{`\$a`, '$', 2, api.OK},
		// What may not be there.
		{"\\\n", 0, 0, api.ErrForm},
		{`\a`, 0, 0, api.ErrForm},
		{`\n`, 0, 0, api.ErrForm},
		{`\t`, 0, 0, api.ErrForm},
		{`\0`, 0, 0, api.ErrForm},
		{`\ `, 0, 0, api.ErrForm},
		{`\"`, 0, 0, api.ErrForm},
		{`\'`, 0, 0, api.ErrForm},
		{`\&`, 0, 0, api.ErrForm},
		{`\,`, 0, 0, api.ErrForm},
		{`\_`, 0, 0, api.ErrForm},
		{"\\\x00", 0, 0, api.ErrForm},
		{"\\\xff", 0, 0, api.ErrForm},
		{`\X41`, 0, 0, api.ErrForm},
		// By its digits.
		{`\x00`, 0, 4, api.OK},
		{`\x0a`, '\n', 4, api.OK},
		{`\x0A`, '\n', 4, api.OK},
		{`\x41`, 'A', 4, api.OK},
		{`\x5b`, '[', 4, api.OK},
		{`\x5C`, '\\', 4, api.OK},
		{`\x5d`, ']', 4, api.OK},
		{`\x5e`, '^', 4, api.OK},
		{`\x2D`, '-', 4, api.OK},
		{`\xff`, 255, 4, api.OK},
		{`\xFF`, 255, 4, api.OK},
		{`\xfF`, 255, 4, api.OK},
		{`\xAb9`, 0xab, 4, api.OK},
		{`\x41` + "\n", 'A', 4, api.OK},
		// With one digit, with none.
		{`\x`, 0, 0, api.ErrForm},
		{`\x4`, 0, 0, api.ErrForm},
		{`\x4g`, 0, 0, api.ErrForm},
		{`\x4]`, 0, 0, api.ErrForm},
		{`\x 4`, 0, 0, api.ErrForm},
		{`\xg4`, 0, 0, api.ErrForm},
		{`\x-1`, 0, 0, api.ErrForm},
		{`\x]]`, 0, 0, api.ErrForm},
		{`\xx41`, 0, 0, api.ErrForm},
		{`\x\x41`, 0, 0, api.ErrForm},
	} {
		if c, used, e := Sign(x.s); c != x.c || used != x.used || e != x.e {
			t.Errorf("Sign(%q): %d %d %d, not %d %d %d", x.s, c, used, e, x.c, x.used, x.e)
		}
	}
}

// wantSign is what Sign answers to a byte as it is, and to one behind a \ (but to x: without digits that is none).
func wantSign(s string) (byte, int, api.Errno) {
	if !strings.HasPrefix(s, `\`) {
		if strings.ContainsAny(s[:1], "\n]\\[^-") {
			return 0, 0, api.ErrForm
		}
		return s[0], 1, api.OK
	}
	if len(s) > 1 && strings.IndexByte(`\][^-/.*+?()|{}$`, s[1]) >= 0 {
		return s[1], 2, api.OK
	}
	return 0, 0, api.ErrForm
}

// P4.2: each byte as it is, each behind a \, and each two of them behind \x.
func TestSignAll(t *testing.T) {
	const small = "0123456789abcdef"
	for a := range 256 {
		c := string([]byte{byte(a)})
		for _, s := range []string{c, c + "a", c + "-", `\` + c, `\` + c + "a"} {
			got, used, e := Sign(s)
			if want, wantUsed, wantE := wantSign(s); got != want || used != wantUsed || e != wantE {
				t.Errorf("Sign(%q): %d %d %d, not %d %d %d", s, got, used, e, want, wantUsed, wantE)
			}
		}
		for b := range 256 {
			s := `\x` + string([]byte{byte(a), byte(b)})
			high := strings.IndexByte(small, lower(byte(a)))
			low := strings.IndexByte(small, lower(byte(b)))
			want, wantUsed, wantE := byte(0), 0, api.ErrForm
			if high >= 0 && low >= 0 {
				want, wantUsed, wantE = byte(16*high+low), 4, api.OK
			}
			if got, used, e := Sign(s); got != want || used != wantUsed || e != wantE {
				t.Errorf("Sign(%q): %d %d %d, not %d %d %d", s, got, used, e, want, wantUsed, wantE)
			}
		}
	}
}

// lower is a capital digit as a small one.
func lower(c byte) byte {
	if 'A' <= c && c <= 'F' {
		return c - 'A' + 'a'
	}
	return c
}

// P4.2: the class of the text that a text begins with.
func TestRead(t *testing.T) {
	but := func(s string) set { return turned(setOf(s + "\n")) }
	for _, x := range []struct {
		s    string
		m    set
		used int
	}{
		// Ordinary ones.
		{"[a]", setOf("a"), 3},
		{"[ab]", setOf("ab"), 4},
		{"[ba]", setOf("ab"), 4},
		{"[aa]", setOf("a"), 4},
		{"[abc]z", setOf("abc"), 5},
		{"[a]]", setOf("a"), 3},
		{"[a][b]", setOf("a"), 3},
		{"[x41]", setOf("x41"), 5},
		{"[a b]", setOf("a b"), 5},
		{"[.*+?(){}|$/]", setOf(".*+?(){}|$/"), 13},
		{"[\x00\xff]", setOf("\x00\xff"), 4},
		{"[é]", setOf("\xc3\xa9"), 4},
		{"[:digit:]]", setOf(":digt"), 9},
		// Two signs with - between.
		{"[a-c]", setOf("abc"), 5},
		{"[a-a]", setOf("a"), 5},
		{"[a-b]", setOf("ab"), 5},
		{"[a-cx-z]", setOf("abcxyz"), 8},
		{"[ca-b0]", setOf("abc0"), 7},
		{"[a-cb-e]", setOf("abcde"), 8},
		{"[ -~]", span(' ', '~'), 5},
		{"[\x00-\xff]", turned(set{}), 5},
		{"[\xfe-\xff]", span(254, 255), 5},
		{`[\x41-C]`, setOf("ABC"), 8},
		{`[A-\x43]`, setOf("ABC"), 8},
		{`[\x00-\xFF]`, turned(set{}), 11},
		{`[\[-\]]`, setOf(`[\]`), 7},
		{`[\--\/]`, setOf("-./"), 7},
		{`[+-\-]`, setOf("+,-"), 6},
		{`[\^-_]`, setOf("^_"), 6},
		{`[\x5d-\x5E]`, setOf("]^"), 11},
		// The bytes that have a meaning there.
		{`[\\]`, setOf(`\`), 4},
		{`[\]]`, setOf("]"), 4},
		{`[\[]`, setOf("["), 4},
		{`[\^]`, setOf("^"), 4},
		{`[\-]`, setOf("-"), 4},
		{`[\]\-]`, setOf("]-"), 6},
		{`[a\-c]`, setOf("a-c"), 6},
		{`[a\^]`, setOf("a^"), 5},
		{`[\/\.\*\+\?\(\)\|\{\}\$]`, setOf("/.*+?()|{}$"), 24},
		{`[\x0a]`, setOf("\n"), 6},
		{`[\x0A-\x0d]`, span(10, 13), 11},
		{`[\x5b\x5c\x5d\x5e\x2d]`, setOf(`[\]^-`), 22},
		{`[\xaB\xFf]`, setOf("\xab\xff"), 10},
		{`[\x410]`, setOf("A0"), 7},
		// With ^ all others, but 10.
		{"[^a]", but("a"), 4},
		{"[^a]x", but("a"), 4},
		{"[^a-c/]", but("abc/"), 7},
		{`[^\^]`, but("^"), 5},
		{`[^\x5e]`, but("^"), 7},
		{`[^\]]`, but("]"), 5},
		{`[^\-]`, but("-"), 5},
		{`[^\x0a]`, but(""), 7},
		{`[^\x00-\xff]`, set{}, 12},
		{`[^\x00-\x09\x0b-\xff]`, set{}, 21},
		{`[^\x01-\xff]`, setOf("\x00"), 12},
		{`[^\x09-\x0b]`, turned(span(9, 11)), 12},
		{`[^\x0b-\xfe]`, joined(span(0, 9), setOf("\xff")), 12},
	} {
		k, used, e := Read(x.s)
		if k != classOf(x.m) || used != x.used || e != api.OK {
			t.Errorf("Read(%q): %x %d %d, not %x %d", x.s, k, used, e, classOf(x.m), x.used)
		}
	}
}

// P4.2: what begins with no class's text.
func TestReadRefuses(t *testing.T) {
	for _, s := range []string{
		"", "a", "a]", " [a]", "\n[a]", "]", "]a[", "^a]", "-", "\\", `\[a]`, `\x5ba]`, "(a)", // no [ ahead
		"[", "[a", "[abc", "[a-", "[a-c", "[^", "[^a", "[^a-c", `[\]`, `[a\]`, `[^\]`, `[\x5d`, "[a)", "[a\x00", "[" + strings.Repeat("a", 70000), // no ] behind
		"[]", "[^]", "[]]", "[]a]", "[^]]", "[^]a]", "[]-a]", // nothing between
		"[-]", "[-a]", "[a-]", "[a-b-c]", "[a-b-]", "[--a]", "[a--]", "[a--z]", "[^-]", "[^-a]", "[^a-]", `[\--]`, `[\-- ]`, "[a-b-c-d]", "[a,-]", // - that stands between no two
		"[c-a]", "[b-a]", "[ac-a]", "[^c-a]", `[\xff-\x00]`, "[\xff-\x00]", `[a-A]`, `[\x62-a]`, `[b-\x61]`, `[\]-\[]`, // from above to below
		"[^^]", "[a^]", "[^^a]", "[^a^]", "[a-^]", "[^-a]", "[^-_]", // ^ that stands elsewhere
		"[[]", "[[a]", "[a[]", "[[a]]", "[[:alpha:]]", "[^[]", "[a-[]", "[[-a]", // [ within
		"[\n]", "[a\n]", "[a\nb]", "[^\n]", "[\na]", "[a-\n]", "[\t-\n]", "[\n-a]", "[\\\n]", // 10 as it is
		`[\q]`, `[\n]`, `[\t]`, `[\a]`, `[\0]`, `[\ ]`, `[\"]`, `[a\q]`, `[^\q]`, `[a-\q]`, `[\w-z]`, "[\\\x00]", "[\\\xff]", `[\X41]`, // \ with what may not be behind it
		`[\x]`, `[\x4]`, `[\x4g]`, `[\xg4]`, `[\x4-5]`, `[\x 4]`, `[\x-1]`, `[\x]]]`, `[a-\x4]`, `[^\x4]`, `[\x`, `[\x4`, `[\`, // too few digits
	} {
		if k, used, e := Read(s); k != (api.Class{}) || used != 0 || e != api.ErrForm {
			t.Errorf("Read(%.40q): %x %d %d", s, k, used, e)
		}
	}
}

// sign, text and item are chapter 4's words, of runes that stand for bytes.
const sign = `(?:[^\n\]\\\[^-]|\\x[0-9A-Fa-f]{2}|\\[\]\\\[^\-/.*+?()|{}$])`

var (
	text = regexp.MustCompile(`^\[\^?(?:` + sign + `(?:-` + sign + `)?)+\]`)
	item = regexp.MustCompile(`(` + sign + `)(?:-(` + sign + `))?`)
)

// wantOne is the byte of a sign.
func wantOne(s string) int {
	switch {
	case strings.HasPrefix(s, `\x`):
		n, _ := strconv.ParseInt(s[2:], 16, 0)
		return int(n)
	case strings.HasPrefix(s, `\`):
		return int(s[1])
	}
	return int([]rune(s)[0])
}

// wantRead is what Read answers.
func wantRead(s string) (set, int, api.Errno) {
	var m set
	runes := make([]rune, len(s))
	for i := range len(s) {
		runes[i] = rune(s[i])
	}
	whole := text.FindString(string(runes))
	if whole == "" {
		return m, 0, api.ErrForm
	}
	within := whole[1 : len(whole)-1]
	within, others := strings.CutPrefix(within, "^")
	for _, x := range item.FindAllStringSubmatch(within, -1) {
		a, b := wantOne(x[1]), wantOne(x[1])
		if x[2] != "" {
			b = wantOne(x[2])
		}
		if a > b {
			return set{}, 0, api.ErrForm
		}
		m = joined(m, span(a, b))
	}
	if others {
		m = turned(joined(m, setOf("\n")))
	}
	return m, len([]rune(whole)), api.OK
}

// against holds what Read answers against what it should, and tells whether it is a class.
func against(t *testing.T, s string) bool {
	k, used, e := Read(s)
	m, wantUsed, wantE := wantRead(s)
	if k != classOf(m) || used != wantUsed || e != wantE {
		t.Fatalf("Read(%q): %x %d %d, not %x %d %d", s, k, used, e, classOf(m), wantUsed, wantE)
	}
	return e == api.OK
}

// P4.2: all short texts of the bytes that classes are made of, and some others.
func TestReadAll(t *testing.T) {
	const of = "[]^-\\x4aB\n\xff"
	l := []string{""}
	for at := 0; len(l[at]) < 4; at++ {
		for i := range len(of) {
			l = append(l, l[at]+of[i:i+1])
		}
	}
	for _, s := range l {
		against(t, s)
		against(t, "["+s)
		against(t, "["+s+"]")
		against(t, "[^"+s+"]")
		against(t, `[a\x`+s+"]")
	}
}

// P4.2: long texts that look stray, of parts that may stand there, and, at times, of one that may not.
func TestReadStray(t *testing.T) {
	parts := []string{"a", "z", "0", " ", ".", "é", "\x00", "\xff", `\\`, `\]`, `\[`, `\^`, `\-`, `\$`, `\/`, `\x0a`, `\x5D`, `\xfF`, "!-)", "0-9", "a-f", `\x00-\x1f`, `\x80-\xff`, `A-\x5a`, "x-x"}
	wrong := []string{"-", "^", "[", "]", "\n", `\`, `\x`, `\x4`, `\q`, "z-a", "a-", "--"}
	next := row(6)
	well := 0
	for i := range 6000 {
		s := "["
		if next()%3 == 0 {
			s += "^"
		}
		for range i % 12 {
			s += parts[next()%uint64(len(parts))]
			if next()%30 == 0 {
				s += wrong[next()%uint64(len(wrong))]
			}
		}
		if next()%20 != 0 {
			s += "]"
		}
		for _, behind := range []string{"", "]", "a]", "\n", "-z]"} {
			if against(t, s+behind) {
				well++
			}
		}
	}
	if well < 10000 {
		t.Errorf("only %d of them are classes", well)
	}
}

// P4.2: a text of many bytes is read, too.
func TestReadLong(t *testing.T) {
	s := "[" + strings.Repeat(`a-c\x2f`, 30000) + "]"
	if k, used, e := Read(s + s); k != classOf(setOf("abc/")) || used != len(s) || e != api.OK {
		t.Errorf("Read of many: %x %d %d", k, used, e)
	}
}

// P4.3: each run's first byte, and, if it has more than one, its last one, with - between, if it has more than two.
func TestText(t *testing.T) {
	for _, x := range []struct {
		m set
		s string
	}{
		{setOf("abc/"), `[\x2fa-c]`},
		// Without bytes, and all.
		{set{}, "[]"},
		{turned(set{}), `[\x00-\xff]`},
		// Runs of one byte, of two, of three, and more.
		{setOf("a"), "[a]"},
		{setOf("ab"), "[ab]"},
		{setOf("abc"), "[a-c]"},
		{setOf("abcd"), "[a-d]"},
		{setOf("ac"), "[ac]"},
		{setOf("abd"), "[abd]"},
		{setOf("abde"), "[abde]"},
		{setOf("abcef"), "[a-cef]"},
		{setOf("acde"), "[ac-e]"},
		{setOf("zyxa10"), "[01ax-z]"},
		{setOf("acegi"), "[acegi]"},
		// At both ends, and across the members of a class.
		{setOf("\x00"), `[\x00]`},
		{setOf("\xff"), `[\xff]`},
		{setOf("\x00\xff"), `[\x00\xff]`},
		{setOf("\x00\x01\xfe\xff"), `[\x00\x01\xfe\xff]`},
		{joined(span(0, 2), span(253, 255)), `[\x00-\x02\xfd-\xff]`},
		{span(63, 64), `[\x3f\x40]`},
		{span(62, 65), `[\x3e-A]`},
		{span(127, 128), `[\x7f\x80]`},
		{span(126, 129), `[\x7e-\x81]`},
		{span(191, 192), `[\xbf\xc0]`},
		{span(190, 193), `[\xbe-\xc1]`},
		{span(1, 254), `[\x01-\xfe]`},
		// The bytes that have a meaning there.
		{setOf("\n"), `[\x0a]`},
		{setOf("-"), `[\x2d]`},
		{setOf("^"), `[\x5e]`},
		{setOf("]"), `[\x5d]`},
		{setOf(`[\]^`), `[\x5b-\x5e]`},
		{setOf("^a"), `[\x5ea]`},
		{setOf("+,-"), `[\x2b-\x2d]`},
		{setOf("-a"), `[\x2da]`},
		// All others.
		{turned(setOf("a")), "[\\x00-\\x60b-\\xff]"},
		{turned(setOf("a\n")), `[\x00-\x09\x0b-\x60b-\xff]`},
		{turned(setOf("\x00\xff")), `[\x01-\xfe]`},
		{joined(span('0', '9'), span('A', 'Z'), span('a', 'z'), setOf(" _")), "[ 0-9A-Z_a-z]"},
	} {
		if s := Text(classOf(x.m)); s != x.s {
			t.Errorf("Text of %x: %s, not %s", classOf(x.m), s, x.s)
		}
	}
}

// wantText is what Text tells.
func wantText(m set) string {
	s := "["
	for a := 0; a < 256; a++ {
		if !m[a] {
			continue
		}
		b := a
		for b < 255 && m[b+1] {
			b++
		}
		s += wantPlain(byte(a))
		switch b - a {
		case 0:
		case 1:
			s += wantPlain(byte(b))
		default:
			s += "-" + wantPlain(byte(b))
		}
		a = b
	}
	return s + "]"
}

// P4.3, P4.4: of each set; and what was told is read as it was, if it has a byte.
func TestToldAndRead(t *testing.T) {
	l := sets()
	for a := range 256 {
		for b := a; b < 256; b++ {
			l = append(l, span(a, b))
		}
	}
	for _, m := range l {
		k := classOf(m)
		s := Text(k)
		if want := wantText(m); s != want {
			t.Fatalf("Text(%x): %s, not %s", k, s, want)
		}
		for _, behind := range []string{"", "]", "a", "\n"} {
			got, used, e := Read(s + behind)
			if count(m) == 0 {
				if got != (api.Class{}) || used != 0 || e != api.ErrForm {
					t.Errorf("Read(%q): %x %d %d", s+behind, got, used, e)
				}
				continue
			}
			if got != k || used != len(s) || e != api.OK {
				t.Fatalf("Read(%q): %x %d %d, not %x", s+behind, got, used, e, k)
			}
		}
	}
}

// P4.2, P4.4: what was told is, with ^ ahead of it, read as the others but 10.
func TestToldAndReadTurned(t *testing.T) {
	for _, m := range sets() {
		k := classOf(m)
		s := "[^" + Text(k)[1:]
		if count(m) == 0 {
			continue
		}
		if got, used, e := Read(s); got != Not(Or(k, One('\n'))) || used != len(s) || e != api.OK {
			t.Fatalf("Read(%q): %x %d %d", s, got, used, e)
		}
	}
}

// The chapter's examples.
func TestExamples(t *testing.T) {
	if s := Text(Or(Span('a', 'c'), One('/'))); s != `[\x2fa-c]` {
		t.Errorf("Text of a, b, c and /: %s", s)
	}
	k, used, e := Read("[^a]x")
	if used != 4 || e != api.OK || !Has(k, 'b') || Has(k, 'a') || Has(k, '\n') {
		t.Errorf("Read of [^a]x: %x %d %d", k, used, e)
	}
}
