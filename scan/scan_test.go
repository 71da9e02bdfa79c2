package scan

import (
	"fmt"
	"slices"
	"strings"
	"testing"

	"dragoman/api"
)

// The words and the marks, as the chapter writes them.
const (
	wantKeys  = "BEGIN END print if else while for in break continue next exit delete length substr index toupper tolower sub gsub"
	wantMarks = "{ } ( ) [ ] , ? : ~ !~ ! == != <= >= < > && || = += -= *= /= %= + - * / % $"
)

// row is a row of numbers below others that look stray, but are the same in each run.
func row(seed uint64) func(below int) int {
	return func(below int) int {
		seed = seed*6364136223846793005 + 1442695040888963407
		x := seed ^ seed>>29
		return int((x ^ x<<17) >> 1 % uint64(below))
	}
}

// texts are all texts of some pieces, of as many as that at most.
func texts(of []string, most int) []string {
	l := []string{""}
	for at, many := 0, 0; many < most; many++ {
		for end := len(l); at < end; at++ {
			for _, piece := range of {
				l = append(l, l[at]+piece)
			}
		}
	}
	return l
}

func num(at int, n api.Dec) api.Token    { return api.Token{Kind: api.TNum, At: at, N: n} }
func str(at int, text string) api.Token  { return api.Token{Kind: api.TStr, At: at, Text: text} }
func re(at int, text string) api.Token   { return api.Token{Kind: api.TRe, At: at, Text: text} }
func name(at int, text string) api.Token { return api.Token{Kind: api.TName, At: at, Text: text} }
func key(at int, text string) api.Token  { return api.Token{Kind: api.TKey, At: at, Text: text} }
func sign(at int, text string) api.Token { return api.Token{Kind: api.TMark, At: at, Text: text} }
func line(at int) api.Token              { return api.Token{Kind: api.TLine, At: at} }
func end(at int) api.Token               { return api.Token{Kind: api.TEnd, At: at} }
func some(l ...api.Token) []api.Token    { return l }

// tokens holds the tokens of a program.
func tokens(t *testing.T, s string, want ...api.Token) {
	t.Helper()
	if l, e, at := Tokens(s); !slices.Equal(l, want) || e != api.OK || at != 0 {
		t.Errorf("Tokens(%.200q): %s, %d at %d, not %s", s, told(l, want), e, at, told(want, l))
	}
}

// told is how many tokens there are, and the first ones of those that others don't begin with.
func told(l, others []api.Token) string {
	many := len(l)
	for len(l) > 0 && len(others) > 0 && l[0] == others[0] {
		l, others = l[1:], others[1:]
	}
	return fmt.Sprintf("%d tokens (.. %+v)", many, l[:min(len(l), 3)])
}

// refused holds an error, where it is, and that there is nothing else.
func refused(t *testing.T, s string, e api.Errno, at int) {
	t.Helper()
	if l, f, place := Tokens(s); len(l) != 0 || f != e || place != at {
		t.Errorf("Tokens(%.60q) of %d bytes: %d tokens, %d at %d, not %d at %d", s, len(s), len(l), f, place, e, at)
	}
}

// P15.1: whole programs.
func TestTokens(t *testing.T) {
	tokens(t, "a /b/ 2", name(0, "a"), sign(2, "/"), name(3, "b"), sign(4, "/"), num(6, 2000000), end(7))
	tokens(t, "~ /b/", sign(0, "~"), re(2, "b"), end(5))
	tokens(t, "{ n += $1 } END { print n }",
		sign(0, "{"), name(2, "n"), sign(4, "+="), sign(7, "$"), num(8, 1000000), sign(10, "}"),
		key(12, "END"), sign(16, "{"), key(18, "print"), name(24, "n"), sign(26, "}"), end(27))
	tokens(t, "# sums\nBEGIN{x[\"a b\"]=0.5;y=1}\n\n/^[0-9]+$/{ # a line\n\tif(!x[$1]||y>=2)next\n}\n",
		line(6), key(7, "BEGIN"), sign(12, "{"), name(13, "x"), sign(14, "["), str(15, "a b"), sign(20, "]"), sign(21, "="), num(22, 500000), line(25),
		name(26, "y"), sign(27, "="), num(28, 1000000), sign(29, "}"), line(30), line(31),
		re(32, "^[0-9]+$"), sign(42, "{"), line(52),
		key(54, "if"), sign(56, "("), sign(57, "!"), name(58, "x"), sign(59, "["), sign(60, "$"), num(61, 1000000), sign(62, "]"), sign(63, "||"),
		name(65, "y"), sign(66, ">="), num(68, 2000000), sign(69, ")"), key(70, "next"), line(74), sign(75, "}"), line(76), end(77))
	tokens(t, `gsub(/a\/b/, "&\/", s) ; s ~ /x/ || $0 !~ /y/`,
		key(0, "gsub"), sign(4, "("), re(5, `a\/b`), sign(11, ","), str(13, "&/"), sign(18, ","), name(20, "s"), sign(21, ")"), line(23),
		name(25, "s"), sign(27, "~"), re(29, "x"), sign(33, "||"), sign(36, "$"), num(37, 0), sign(39, "!~"), re(42, "y"), end(45))
	tokens(t, "for(i in a)delete a[i]",
		key(0, "for"), sign(3, "("), name(4, "i"), key(6, "in"), name(9, "a"), sign(10, ")"), key(11, "delete"), name(18, "a"), sign(19, "["), name(20, "i"), sign(21, "]"), end(22))
}

// P15.1: what counts for nothing, and where the end is.
func TestGaps(t *testing.T) {
	tokens(t, "", end(0))
	tokens(t, " ", end(1))
	tokens(t, "\t \t", end(3))
	tokens(t, "#", end(1))
	tokens(t, "#a", end(2))
	tokens(t, "##", end(2))
	tokens(t, " \t# a \" /( @ \xff\r\x00 # ;", end(20))
	tokens(t, "#\n", line(1), end(2))
	tokens(t, "#;\n;", line(2), line(3), end(4))
	tokens(t, "#\n#\n", line(1), line(3), end(4))
	tokens(t, "#a\n #b", line(2), end(6))
	tokens(t, "a", name(0, "a"), end(1))
	tokens(t, "\ta ", name(1, "a"), end(3))
	tokens(t, "a#b", name(0, "a"), end(3))
	tokens(t, "a #b\nc", name(0, "a"), line(4), name(5, "c"), end(6))
	tokens(t, "1#2", num(0, 1000000), end(3))
	tokens(t, `"a"#"b"`, str(0, "a"), end(7))
	tokens(t, "/a/#/b/", re(0, "a"), end(7))
	tokens(t, "+#=\n=", sign(0, "+"), line(3), sign(4, "="), end(5))
	tokens(t, `"#" /#/`, str(0, "#"), sign(4, "/"), end(7))
	tokens(t, `"a # b"`, str(0, "a # b"), end(7))
	tokens(t, "/ # /", re(0, " # "), end(5))
	tokens(t, "a b\tc", name(0, "a"), name(2, "b"), name(4, "c"), end(5))
	tokens(t, "\n;\n", line(0), line(1), line(2), end(3))
	tokens(t, " ; ", line(1), end(3))
	// Blanks part tokens.
	tokens(t, "= =", sign(0, "="), sign(2, "="), end(3))
	tokens(t, "! ~", sign(0, "!"), sign(2, "~"), end(3))
	tokens(t, "1 2", num(0, 1000000), num(2, 2000000), end(3))
	tokens(t, "i f", name(0, "i"), name(2, "f"), end(3))
}

// P15.1: figures, maybe a point, and figures behind it.
func TestNumbers(t *testing.T) {
	for s, n := range map[string]api.Dec{
		"0": 0, "1": 1000000, "7": 7000000, "10": 10000000, "007": 7000000, "00": 0,
		"0.0": 0, "0.5": 500000, "2.50": 2500000, "1.000001": 1000001, "0.000001": 1, "00.10": 100000,
		"1.0000019": 1000001, "0.0000009": 0, "0.99999999999999999999": 999999, // what is behind the sixth one is dropped
		"9223372036854": 9223372036854000000, "9223372036854.775807": 9223372036854775807, "9223372036854.7758079999": 9223372036854775807,
		"0000000000000000000000009223372036854.775807": 9223372036854775807, strings.Repeat("0", 300) + "." + strings.Repeat("0", 300): 0,
	} {
		tokens(t, s, num(0, n), end(len(s)))
		tokens(t, " "+s+";"+s, num(1, n), line(len(s)+1), num(len(s)+2, n), end(2*len(s)+2))
	}
	// No sign belongs to it, and no letter.
	tokens(t, "-1", sign(0, "-"), num(1, 1000000), end(2))
	tokens(t, "+1.5", sign(0, "+"), num(1, 1500000), end(4))
	tokens(t, "1-2", num(0, 1000000), sign(1, "-"), num(2, 2000000), end(3))
	tokens(t, "1a", num(0, 1000000), name(1, "a"), end(2))
	tokens(t, "1.5e3", num(0, 1500000), name(3, "e3"), end(5))
	tokens(t, "0x41", num(0, 0), name(1, "x41"), end(4))
	tokens(t, "1_", num(0, 1000000), name(1, "_"), end(2))
	tokens(t, "2in", num(0, 2000000), key(1, "in"), end(3))
	tokens(t, `1"2"`, num(0, 1000000), str(1, "2"), end(4))
	for _, s := range []string{"9223372036854.775808", "9223372036855", "99999999999999", strings.Repeat("9", 500), "9223372036854775807", "10000000000000.5", "09223372036855"} {
		refused(t, s, api.ErrOver, 0)
		refused(t, "a = "+s+" 1", api.ErrOver, 4)
		refused(t, "-"+s, api.ErrOver, 1) // not even if - would make it fit
	}
	refused(t, "-9223372036854.775808", api.ErrOver, 1)
	// A point stands between figures alone.
	for s, at := range map[string]int{"1.": 1, "12. 5": 2, "1.a": 1, "1..2": 1, "1.2.": 3, "1.2.3": 3, ".": 0, ".5": 0, "a.5": 1, "1 .5": 2, "1.-5": 1, "1.\n": 1} {
		refused(t, s, api.ErrSyntax, at)
	}
}

// P15.1: names, and words of the language.
func TestNames(t *testing.T) {
	for _, s := range []string{"a", "Z", "_", "x1", "_9", "A_b0", "abc_DEF_123", "NR", "NF", "begin", "End", "PRINT", "If", "printf", "getline", "function", "func", "do", "return", "x41", strings.Repeat("a", 8192)} {
		tokens(t, s, name(0, s), end(len(s)))
	}
	for _, s := range strings.Fields(wantKeys) {
		tokens(t, s, key(0, s), end(len(s)))
		tokens(t, " "+s+"(", key(1, s), sign(len(s)+1, "("), end(len(s)+2))
		tokens(t, s+" "+s, key(0, s), key(len(s)+1, s), end(2*len(s)+1))
		tokens(t, "1"+s, num(0, 1000000), key(1, s), end(len(s)+1))
		// The longest one: more makes it a name.
		for _, more := range []string{"a", "Z", "_", "0", "9", s} {
			tokens(t, s+more, name(0, s+more), end(len(s+more)))
		}
		tokens(t, "x"+s, name(0, "x"+s), end(len(s)+1))
		tokens(t, "_"+s, name(0, "_"+s), end(len(s)+1))
		if less := s[:len(s)-1]; !slices.Contains(strings.Fields(wantKeys), less) {
			tokens(t, less, name(0, less), end(len(less)))
		}
		for _, other := range []string{strings.ToUpper(s), strings.ToLower(s)} {
			if other != s {
				tokens(t, other, name(0, other), end(len(s)))
			}
		}
	}
	// All bytes, alone, and behind a letter.
	for n := range 256 {
		c := string([]byte{byte(n)})
		starts := strings.Contains("ABCDEFGHIJKLMNOPQRSTUVWXYZabcdefghijklmnopqrstuvwxyz_", c)
		l, _, _ := Tokens(c)
		if is := slices.Equal(l, some(name(0, c), end(1))); is != starts {
			t.Errorf("Tokens(%q): %+v", c, l)
		}
		l, _, _ = Tokens("q" + c)
		if is := slices.Equal(l, some(name(0, "q"+c), end(2))); is != (starts || n >= '0' && n <= '9') {
			t.Errorf("Tokens(%q): %+v", "q"+c, l)
		}
	}
}

// P15.1: what is meant between double quotes.
func TestValues(t *testing.T) {
	for s, text := range map[string]string{
		`""`: "", `"a"`: "a", `"a b"`: "a b", "\"\t\"": "\t", `"'"`: "'", `"/"`: "/", `"//"`: "//", `"&"`: "&", `"#;{"`: "#;{", `"é"`: "é", "\"\x00\x7f\xff\r\"": "\x00\x7f\xff\r",
		`"\""`: `"`, `"\\"`: `\`, `"\/"`: "/", `"a\"b"`: `a"b`, `"\"\""`: `""`, `"\\\\"`: `\\`, `"\\\""`: `\"`, `"\\n"`: `\n`, `"\\x41"`: `\x41`, `"\/\/"`: "//",
		`"\x41"`: "A", `"\x00"`: "\x00", `"\xff"`: "\xff", `"\xFf"`: "\xff", `"\x22"`: `"`, `"\x5c"`: `\`, `"\x5C\x22"`: `\"`, `"\x5cx41"`: `\x41`, `"\x410"`: "A0", `"a\x2fb\x2Fc"`: "a/b/c", `"\x0b\x09\x1a\xa0"`: "\v\t\x1a\xa0", `"x41"`: "x41", `"\x0d"`: "\r",
	} {
		tokens(t, s, str(0, text), end(len(s)))
		tokens(t, "a"+s+"b", name(0, "a"), str(1, text), name(len(s)+1, "b"), end(len(s)+2))
		tokens(t, s+s, str(0, text), str(len(s), text), end(2*len(s)))
	}
	tokens(t, `"a" "b"`, str(0, "a"), str(4, "b"), end(7))
	tokens(t, `"a""b"`, str(0, "a"), str(3, "b"), end(6))
	tokens(t, `"\\"a`, str(0, `\`), name(4, "a"), end(5))
	for n := range 256 {
		c := string([]byte{byte(n)})
		switch {
		case c == "\n" || c == `\`:
			refused(t, `"a`+c+`b"`, api.ErrSyntax, 0)
		case c == `"`:
			refused(t, `"a`+c+`b"`, api.ErrSyntax, 4)
		default:
			tokens(t, `"a`+c+`b"`, str(0, "a"+c+"b"), end(5))
		}
		if strings.Contains(`"\/`, c) {
			tokens(t, `"a\`+c+`b"`, str(0, "a"+c+"b"), end(6))
		} else {
			refused(t, `"a\`+c+`b"`, api.ErrSyntax, 0)
		}
		const low, high = "0123456789abcdef", "0123456789ABCDEF"
		for _, s := range []string{
			string([]byte{low[n/16], low[n%16]}), string([]byte{high[n/16], low[n%16]}),
			string([]byte{low[n/16], high[n%16]}), string([]byte{high[n/16], high[n%16]}),
		} {
			if n == '\n' {
				refused(t, ` "a\x`+s+`b"`, api.ErrSyntax, 1)
			} else {
				tokens(t, ` "a\x`+s+`b"`, str(1, "a"+c+"b"), end(9))
			}
		}
		if !strings.Contains("0123456789abcdefABCDEF", c) {
			refused(t, `"\x4`+c+`"`, api.ErrSyntax, 0)
			refused(t, `"\x`+c+`4"`, api.ErrSyntax, 0)
		}
	}
	for _, s := range []string{
		`"`, `"a`, `"a b;c`, "\"a\n\"", "\"\n", `"\"`, `"\\\"`, `"a\`, `"\`, `"\n"`, `"\t"`, `"\a"`, `"\&"`, `"\ "`, `"\x"`, `"\x4"`, `"\x4`, `"\x41`, `"\xg0"`, `"\x0g"`, `"\X41"`, `"\0"`, `"\101"`, `"\x0a"`, `"\x0A"`, `"a\x0ab"`, "\"\\\n\"",
	} {
		refused(t, s, api.ErrSyntax, 0)
		refused(t, "a "+s, api.ErrSyntax, 2)
		refused(t, "\n\t"+s+"\n", api.ErrSyntax, 2)
	}
}

// P15.1: regular expressions.
func TestExpressions(t *testing.T) {
	for _, s := range []string{
		"", "a", "abc", "a b", " ", "\t", "a|b*", "(a|b)+c?", "^$", ".", "[a-c]", "[^\\]]", `\x41`, `\x2f`, `\x0a`, `\.`, "#", ";", `"`, "'", "=", "\x00\xff", "é",
		`\/`, `a\/b`, `\/\/`, `[\/]`, `\\`, `a\\`, `\\\/`, `\\\\`, `\\\\\/`, `\(\)`, `[\\]`, strings.Repeat("(", 30) + strings.Repeat(")", 30), strings.Repeat("a", 1000),
	} {
		tokens(t, "/"+s+"/", re(0, s), end(len(s)+2))
		tokens(t, "~/"+s+"/b", sign(0, "~"), re(1, s), name(len(s)+3, "b"), end(len(s)+4))
		// Behind it / is a mark.
		tokens(t, "/"+s+"//", re(0, s), sign(len(s)+2, "/"), end(len(s)+3))
		tokens(t, "/"+s+"/ /=", re(0, s), sign(len(s)+3, "/="), end(len(s)+5))
	}
	for _, s := range []string{
		"/", "/a", "/a b", "/a\n/", "/\n/", "/a\\/", `/\/`, `/\\\/`, `/\`, `/a\`, "/a\\\n/", "/[\n]/", "/[\\\n]/", "/a\\\n\\/b/", // without an end
		"/*/", "/(/", "/)/", "/a{2}/", "/[b-a]/", "/[]/", "/[/", "/[/]/", "/]/", "/-/", `/\q/`, `/\x4/`, `/\n/`, `/\"/`, "/a|*/", "/(a/", // not read
		"/" + strings.Repeat("(", 31) + strings.Repeat(")", 31) + "/", "/" + strings.Repeat("a", 1001) + "/", // too deep, too big
	} {
		refused(t, s, api.ErrSyntax, 0)
		refused(t, " ! "+s, api.ErrSyntax, 3)
		refused(t, "a\n"+s+"\nb", api.ErrSyntax, 2)
	}
	// All bytes, alone.
	for n := range 256 {
		c := string([]byte{byte(n)})
		switch {
		case c == "/":
			tokens(t, "///", re(0, ""), sign(2, "/"), end(3))
		case strings.Contains("*+?(){}[]-\\\n", c):
			refused(t, "/"+c+"/", api.ErrSyntax, 0)
		default:
			tokens(t, "/"+c+"/", re(0, c), end(3))
		}
	}
}

// P15.1: behind an operand / is a mark, or the beginning of /=.
func TestSlashBehind(t *testing.T) {
	for s, ahead := range map[string][]api.Token{
		"1": some(num(0, 1000000)), "1.5": some(num(0, 1500000)), `"a"`: some(str(0, "a")), `""`: some(str(0, "")), "/b/": some(re(0, "b")), "//": some(re(0, "")), "x": some(name(0, "x")), "_9": some(name(0, "_9")), "if1": some(name(0, "if1")),
		")": some(sign(0, ")")), "]": some(sign(0, "]")), "$1": some(sign(0, "$"), num(1, 1000000)), ";)": some(line(0), sign(1, ")")), "/b/\"/\"": some(re(0, "b"), str(3, "/")),
	} {
		for _, gap := range []string{"", " ", "\t \t"} {
			at := len(s + gap)
			hold := func(more string, want ...api.Token) {
				t.Helper()
				for i := range want {
					want[i].At += at
				}
				tokens(t, s+gap+more, slices.Concat(ahead, want)...)
			}
			hold("/", sign(0, "/"), end(1))
			hold("/a/", sign(0, "/"), name(1, "a"), sign(2, "/"), end(3))
			hold("/ 2", sign(0, "/"), num(2, 2000000), end(3))
			hold("/=2", sign(0, "/="), num(2, 2000000), end(3))
			hold("/=/a/", sign(0, "/="), re(2, "a"), end(5))
			hold("/ =", sign(0, "/"), sign(2, "="), end(3))
			hold("//a/", sign(0, "/"), re(1, "a"), end(4))
			hold("/\n/a/", sign(0, "/"), line(1), re(2, "a"), end(5))
			hold("/(/a/", sign(0, "/"), sign(1, "("), re(2, "a"), end(5))
			hold("~/a/", sign(0, "~"), re(1, "a"), end(4))
			hold("#/\n/a/", line(2), re(3, "a"), end(6))
		}
	}
}

// P15.1: behind all else / begins a regular expression.
func TestSlashElse(t *testing.T) {
	hold := func(s string, ahead ...api.Token) {
		t.Helper()
		for _, gap := range []string{"", " ", "\t \t"} {
			at := len(s + gap)
			for _, text := range []string{"", "a", "=", "=a", " a b ", "a;", "#"} {
				long := at + len(text) + 2
				tokens(t, s+gap+"/"+text+"/", append(slices.Clone(ahead), re(at, text), end(long))...)
				tokens(t, s+gap+"/"+text+"/ /2", append(slices.Clone(ahead), re(at, text), sign(long+1, "/"), num(long+2, 2000000), end(long+3))...)
			}
			for _, wrong := range []string{"/", "/a", "/=", "/= 2", "/*/", "/a\n/"} {
				refused(t, s+gap+wrong, api.ErrSyntax, at)
			}
		}
	}
	hold("")
	hold("\n", line(0))
	hold(";", line(0))
	hold("x;", name(0, "x"), line(1))
	hold("x#y\n", name(0, "x"), line(3))
	hold("x\n\n", name(0, "x"), line(1), line(2))
	hold(") (", sign(0, ")"), sign(2, "("))
	hold("x /", name(0, "x"), sign(2, "/"))
	hold("x /=", name(0, "x"), sign(2, "/="))
	for _, s := range strings.Fields(wantKeys) {
		hold(s, key(0, s))
		hold("x "+s, name(0, "x"), key(2, s))
	}
	for _, s := range strings.Fields(wantMarks) {
		if strings.Contains(") ] / /=", s) {
			continue
		}
		hold(s, sign(0, s))
		hold("x "+s, name(0, "x"), sign(2, s))
	}
}

// P15.1: all marks, alone and with blanks between, and what is none.
func TestMarksRead(t *testing.T) {
	marks := strings.Fields(wantMarks)
	for _, s := range marks {
		// Behind a name, since / is a mark behind an operand alone.
		tokens(t, "x"+s, name(0, "x"), sign(1, s), end(1+len(s)))
		tokens(t, "x "+s+" x", name(0, "x"), sign(2, s), name(3+len(s), "x"), end(4+len(s)))
		tokens(t, "x"+s+"1", name(0, "x"), sign(1, s), num(1+len(s), 1000000), end(2+len(s)))
		for _, u := range marks {
			if u[0] != '/' {
				tokens(t, "x"+s+" "+u, name(0, "x"), sign(1, s), sign(2+len(s), u), end(2+len(s+u)))
			}
		}
	}
	// The longest one each time.
	for s, want := range map[string]string{
		"===": "== =", "====": "== ==", "!==": "!= =", "!!=": "! !=", "!!~": "! !~", "!~~": "!~ ~", "~!~": "~ !~", "!=~": "!= ~", "=!~": "= !~", "=~": "= ~",
		"<==": "<= =", "<<=": "< <=", ">>": "> >", "=>": "= >", "=<": "= <", "<>": "< >", "><=": "> <=", "&&&&": "&& &&", "||||": "|| ||", "||&&": "|| &&",
		"+==": "+= =", "++": "+ +", "++=": "+ +=", "--": "- -", "-=-": "-= -", "*=*": "*= *", "**=": "* *=", "%%=": "% %=", "%==": "%= =", "+-*%": "+ - * %", "=+": "= +", "=-=": "= -=",
		"$$": "$ $", "[[]]": "[ [ ] ]", "){": ") {", "}}": "} }", ",,": ", ,", "?:": "? :", "!$-+": "! $ - +", "=====": "== == =", "!~=": "!~ =",
	} {
		l := some(name(0, "x"))
		at := 1
		for _, m := range strings.Fields(want) {
			l = append(l, sign(at, m))
			at += len(m)
		}
		tokens(t, "x"+s, append(l, end(at))...)
	}
	for _, s := range []string{"&", "|", ".", "@", "^", "`", "'", `\`, "\r", "\v", "\f", "\x00", "\x7f", "\x80", "\xff", "é", "& &", "&|", "|&"} {
		refused(t, s, api.ErrSyntax, 0)
		refused(t, "x "+s, api.ErrSyntax, 2)
		refused(t, "x"+s, api.ErrSyntax, 1)
		refused(t, "1;"+s+"\n", api.ErrSyntax, 2)
	}
	refused(t, "x&&&", api.ErrSyntax, 3)
	refused(t, "x|||y", api.ErrSyntax, 3)
	refused(t, "x &= 1", api.ErrSyntax, 2)
	refused(t, "x ^ 2", api.ErrSyntax, 2)
	refused(t, "x **= 2 '", api.ErrSyntax, 8)
	// All bytes alone: these are marks.
	for n := range 256 {
		c := string([]byte{byte(n)})
		l, _, _ := Tokens("x " + c)
		if is := slices.Equal(l, some(name(0, "x"), sign(2, c), end(3))); is != strings.Contains("{}()[],?:~!<>=+-*/%$", c) {
			t.Errorf("Tokens(%q): %+v", "x "+c, l)
		}
	}
}

// P15.1: the words and the marks, in the chapter's order; what is handed out is nobody else's.
func TestLists(t *testing.T) {
	for range 2 {
		keys, marks := Keys(), Marks()
		if !slices.Equal(keys, strings.Fields(wantKeys)) || len(keys) != 20 {
			t.Errorf("Keys: %q", keys)
		}
		if !slices.Equal(marks, strings.Fields(wantMarks)) || len(marks) != 32 {
			t.Errorf("Marks: %q", marks)
		}
		clear(keys)
		clear(marks)
		_ = append(keys[:1], "x")
		tokens(t, "if(x)", key(0, "if"), sign(2, "("), name(3, "x"), sign(4, ")"), end(5))
	}
}

// P15.1: what is an operand.
func TestOperand(t *testing.T) {
	texts := append(strings.Fields(wantKeys+" "+wantMarks), "", ")]", "))", "]]", "] ", " )", "x", "1", "TName", "\n", ";", "\xff")
	for kind := -3; kind < 12; kind++ {
		for _, s := range texts {
			want := kind == 2 || kind == 3 || kind == 4 || kind == 5 || kind == 7 && (s == ")" || s == "]")
			for _, x := range []api.Token{{Kind: kind, Text: s}, {Kind: kind, Text: s, At: 7, N: -1}, {Kind: kind, Text: s, At: -1, N: 1 << 62}} {
				if Operand(x) != want {
					t.Errorf("Operand(%+v): %v", x, !want)
				}
			}
		}
	}
	for _, kind := range []int{1 << 32, 1<<32 + 2, -1 << 63, 1<<63 - 1} {
		if Operand(api.Token{Kind: kind, Text: ")"}) {
			t.Errorf("Operand of the kind %d", kind)
		}
	}
}
