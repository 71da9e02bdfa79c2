package util

import (
	"math"
	"strings"
	"testing"

	"dragoman/api"
)

// answer is what Run answers.
type answer struct {
	out          string
	status, left int
	e            api.Errno
}

// ask runs a utility.
func ask(words []string, in string, fuel int) answer {
	out, status, left, e := Run(words, in, fuel)
	return answer{out, status, left, e}
}

// ran is what a utility puts out, of words with blanks between, and how it went.
type ran struct {
	words  string
	out    string
	status int
}

// hold holds Run against what is said of it: none of these hangs on the text, or takes of fuel.
func hold(t *testing.T, words []string, out string, status int) {
	t.Helper()
	for _, fuel := range []int{100, 0, -7, math.MinInt, math.MaxInt} {
		for _, in := range []string{"", "in\n"} {
			if got, want := ask(words, in, fuel), (answer{out, status, fuel, api.OK}); got != want {
				t.Errorf("Run(%q, %q, %d): %+v, not %+v", words, in, fuel, got, want)
			}
		}
	}
}

func holdAll(t *testing.T, rows []ran) {
	t.Helper()
	for _, x := range rows {
		hold(t, strings.Split(x.words, " "), x.out, x.status)
	}
}

// P13.2: without words, or of a name that isn't known.
func TestUnknown(t *testing.T) {
	for _, fuel := range []int{7, 0, -7, math.MinInt, math.MaxInt} {
		want := answer{"", 127, fuel, api.ErrNone}
		for _, words := range [][]string{nil, {}} {
			if got := ask(words, "in\n", fuel); got != want {
				t.Errorf("Run of no words: %+v", got)
			}
		}
		for _, name := range strange {
			for _, words := range [][]string{{name}, {name, "a"}, {name, "echo", "b"}} {
				if got := ask(words, "in\n", fuel); got != want {
					t.Errorf("Run(%q): %+v", words, got)
				}
			}
		}
	}
}

// P13.2: all others, with a blank between.
func TestEcho(t *testing.T) {
	for _, x := range []struct {
		others []string
		out    string
	}{
		{nil, "\n"}, {[]string{""}, "\n"}, {[]string{"", ""}, " \n"}, {[]string{"a"}, "a\n"}, {[]string{"a", "b"}, "a b\n"}, {[]string{"a", "", "b"}, "a  b\n"}, {[]string{"", "a", ""}, " a \n"}, {[]string{"a\n"}, "a\n\n"}, {[]string{" a ", "\tb"}, " a  \tb\n"},
		// No word is anything but itself.
		{[]string{"-n", "a"}, "-n a\n"}, {[]string{"-e", `a\n`}, "-e a\\n\n"}, {[]string{"--"}, "--\n"}, {[]string{"$x", "'", `"`, "*"}, "$x ' \" *\n"}, {[]string{"echo", "echo"}, "echo echo\n"}, {[]string{everyByte(), "\xff"}, everyByte() + " \xff\n"}, {[]string{strings.Repeat("a", api.MaxShell+1)}, strings.Repeat("a", api.MaxShell+1) + "\n"},
	} {
		hold(t, append([]string{"echo"}, x.others...), x.out, 0)
	}
}

// P13.2: how it goes, whatever stands behind.
func TestTrueFalse(t *testing.T) {
	for _, others := range [][]string{nil, {""}, {"a"}, {"false"}, {"true", ":", "false"}, {"-n", "x", "y", "z"}} {
		hold(t, append([]string{":"}, others...), "", 0)
		hold(t, append([]string{"true"}, others...), "", 0)
		hold(t, append([]string{"false"}, others...), "", 1)
	}
}

// P13.2: hex and unhex.
func TestHex(t *testing.T) {
	holdAll(t, []ran{
		{"hex Az", "x417a\n", 0}, {"hex ", "x\n", 0}, {"hex x", "x78\n", 0}, {"hex \n\xff\x00", "x0aff00\n", 0}, {"hex é", "xc3a9\n", 0}, {"hex", "", 2}, {"hex A z", "", 2}, {"hex A ", "", 2},
		{"unhex x417a", "Az\n", 0}, {"unhex x", "\n", 0}, {"unhex x0a", "\n\n", 0}, {"unhex xff00", "\xff\x00\n", 0}, {"unhex x20", " \n", 0},
		{"unhex 41", "", 2}, {"unhex ", "", 2}, {"unhex x4", "", 2}, {"unhex x417", "", 2}, {"unhex xAB", "", 2}, {"unhex X41", "", 2}, {"unhex x4g", "", 2}, {"unhex x41\n", "", 2}, {"unhex", "", 2}, {"unhex x41 x41", "", 2},
	})
}

// P13.2: numbers.
func TestDec(t *testing.T) {
	holdAll(t, []ran{
		{"dec + 1.5 2", "3.5\n", 0}, {"dec - 1.5 2", "-0.5\n", 0}, {"dec * 1.5 -2", "-3\n", 0}, {"dec / 1 3", "0.333333\n", 0}, {"dec % 7 -4", "3\n", 0}, {"dec % -7 4", "-3\n", 0}, {"dec - 2 7.5", "-5.5\n", 0},
		// Of what numbers begin with.
		{"dec + 1x 2y", "3\n", 0}, {"dec + a ", "0\n", 0}, {"dec *  5", "0\n", 0}, {"dec - a 1", "-1\n", 0}, {"dec + \t1.50x -.5", "1\n", 0}, {"dec + 0.0000009 0", "0\n", 0},
		// Errors.
		{"dec / 1 0", "", 2}, {"dec % 1 0", "", 2}, {"dec / 1 x", "", 2}, {"dec / 1 0.0000001", "", 2}, {"dec + 9223372036854.775807 0.000001", "", 2}, {"dec + 9223372036854.775807 0", "9223372036854.775807\n", 0}, {"dec - -9223372036854.775808 0.000001", "", 2}, {"dec * 9999999 9999999", "", 2}, {"dec / -9223372036854.775808 -1", "", 2}, {"dec + 9999999999999 0", "", 2}, {"dec + 0 9999999999999", "", 2}, {"dec % 1 -9999999999999", "", 2},
		{"dec cmp 9 10", "-1\n", 0}, {"dec cmp 10 9", "1\n", 0}, {"dec cmp 10 9a", "-1\n", 0}, {"dec cmp 10 10.0", "0\n", 0}, {"dec cmp a a", "0\n", 0}, {"dec cmp  ", "0\n", 0}, {"dec cmp b a", "1\n", 0}, {"dec cmp  a", "-1\n", 0}, {"dec cmp 9999999999999 1", "1\n", 0},
		{"dec low 257", "1\n", 0}, {"dec low 0", "0\n", 0}, {"dec low 255.9", "255\n", 0}, {"dec low 256", "0\n", 0}, {"dec low -1", "255\n", 0}, {"dec low -0.9", "0\n", 0}, {"dec low x", "0\n", 0}, {"dec low ", "0\n", 0}, {"dec low 300x", "44\n", 0}, {"dec low 9999999999999", "", 2}, {"dec low -9999999999999x", "", 2},
		{"dec true 0.0", "", 1}, {"dec true 0", "", 1}, {"dec true -.0\t", "", 1}, {"dec true ", "", 1}, {"dec true x", "", 0}, {"dec true 1", "", 0}, {"dec true 0x", "", 0}, {"dec true 0.0000001", "", 1}, {"dec true 9999999999999", "", 0}, {"dec true -1", "", 0},
	})
	// A blank is a text of bytes, and so it is yes.
	hold(t, []string{"dec", "true", " "}, "", 0)
	hold(t, []string{"dec", "true", " 0 "}, "", 1)
}

// P13.2: texts.
func TestStr(t *testing.T) {
	long := strings.Repeat("ab ", 30000)
	holdAll(t, []ran{
		{"str len abc", "3\n", 0}, {"str len ", "0\n", 0}, {"str len é", "2\n", 0}, {"str len a\nb\n", "4\n", 0},
		{"str index banana an", "2\n", 0}, {"str index banana x", "0\n", 0}, {"str index  ", "1\n", 0}, {"str index a ", "1\n", 0}, {"str index  a", "0\n", 0}, {"str index an banana", "0\n", 0},
		{"str sub hello 2 3", "ell\n", 0}, {"str sub hello 0 2", "h\n", 0}, {"str sub hello -1 99", "hello\n", 0}, {"str sub hello 9 1", "\n", 0}, {"str sub hello 1 0", "\n", 0}, {"str sub hello 1 -1", "\n", 0}, {"str sub  1 1", "\n", 0},
		// Of numbers' parts.
		{"str sub hello 2.9 1.9", "e\n", 0}, {"str sub hello -0.9 2", "h\n", 0}, {"str sub hello -1.9 3", "h\n", 0}, {"str sub hello 2 -0.9", "\n", 0}, {"str sub hello x 2", "h\n", 0}, {"str sub hello  2", "h\n", 0}, {"str sub hello 2 x", "\n", 0}, {"str sub hello 2x \t2y", "el\n", 0}, {"str sub hello 2 9000000000000", "ello\n", 0}, {"str sub hello -9223372036854.775808 9223372036854.775807", "\n", 0}, {"str sub hello 2 9223372036854.775807", "ello\n", 0},
		{"str sub hello 2 9223372036854.775808", "", 2}, {"str sub hello 9999999999999 1", "", 2}, {"str sub hello -9999999999999 1", "", 2}, {"str sub hello 9999999999999 9999999999999", "", 2},
		{"str up aZ1", "AZ1\n", 0}, {"str low aZ1", "az1\n", 0}, {"str up ", "\n", 0}, {"str low ", "\n", 0}, {"str up éa\xff", "éA\xff\n", 0}, {"str low ÉA\xff", "Éa\xff\n", 0},
		{"str count a", "1\n", 0}, {"str count ", "0\n", 0}, {"str count a\tb\t\tc", "3\n", 0}, {"str count \t", "0\n", 0}, {"str count a\nb", "1\n", 0},
		{"str field 1 a", "a\n", 0}, {"str field 2 a", "\n", 0}, {"str field 0 \ta\tb\t", "\ta\tb\t\n", 0}, {"str field 2 a\tb\tc", "b\n", 0}, {"str field 2.9 a\tb\tc", "b\n", 0}, {"str field 0.9 a\tb", "a\tb\n", 0}, {"str field x a\tb", "a\tb\n", 0}, {"str field  a\tb", "a\tb\n", 0}, {"str field 2x a\tb", "b\n", 0}, {"str field 1 ", "\n", 0}, {"str field 9223372036854.775807 a", "\n", 0},
		// The part is asked of, not the number: -0.9 is no field below 0.
		{"str field -0.9 a\tb", "a\tb\n", 0}, {"str field -0 a", "a\n", 0}, {"str field -1 a", "", 2}, {"str field -1.5 a", "", 2}, {"str field -9223372036854.775808 a", "", 2}, {"str field -1x a", "", 2}, {"str field 9999999999999 a", "", 2}, {"str field -9999999999999 a", "", 2},
	})
	hold(t, []string{"str", "count", " a b  c "}, "3\n", 0)
	hold(t, []string{"str", "field", "2", " a b  c "}, "b\n", 0)
	hold(t, []string{"str", "index", "a b", " b"}, "2\n", 0)
	hold(t, []string{"str", "count", long}, "30000\n", 0)
	hold(t, []string{"str", "len", long}, "90000\n", 0)
	hold(t, []string{"str", "up", long}, strings.Repeat("AB ", 30000)+"\n", 0)
}

// P13.2: questions of texts.
func TestTexts(t *testing.T) {
	holdAll(t, []ran{
		{"test a = a", "", 0}, {"test a = b", "", 1}, {"test a != a", "", 1}, {"test a != b", "", 0}, {"test  = ", "", 0}, {"test  != ", "", 1}, {"test  = a", "", 1}, {"test a != ", "", 0}, {"test \xff = \xff", "", 0}, {"test a = A", "", 1},
		// They are no numbers.
		{"test 1 = 1.0", "", 1}, {"test 1 != 1.0", "", 0}, {"test 0 = -0", "", 1}, {"test a = a\n", "", 1},
		{"test -n a", "", 0}, {"test -n ", "", 1}, {"test -z a", "", 1}, {"test -z ", "", 0}, {"test -n 0", "", 0}, {"test -z \x00", "", 1}, {"test -n -n", "", 0}, {"test -z -z", "", 1}, {"test -n =", "", 0},
		// What stands where tells what it is.
		{"test = = =", "", 0}, {"test = != =", "", 1}, {"test -n = -n", "", 0}, {"test -n = a", "", 1}, {"test -z != a", "", 0}, {"test ! = a", "", 1}, {"test -eq = -eq", "", 0}, {"test ( = )", "", 1},
		// What isn't so.
		{"test", "", 2}, {"test ", "", 2}, {"test a", "", 2}, {"test -n", "", 2}, {"test =", "", 2}, {"test a =", "", 2}, {"test = a", "", 2}, {"test = a b", "", 2}, {"test a b =", "", 2}, {"test a -n", "", 2}, {"test -n a b", "", 2}, {"test a -n b", "", 2}, {"test a -z ", "", 2}, {"test -z a b", "", 2}, {"test a == a", "", 2}, {"test a b c", "", 2}, {"test a  a", "", 2}, {"test a = a b", "", 2}, {"test ! a = a", "", 2}, {"test ! a", "", 2}, {"test a = a -a a = a", "", 2}, {"test [ a = a ]", "", 2}, {"test -N a", "", 2}, {"test -x a", "", 2}, {"test a < b", "", 2}, {"test a > b", "", 2}, {"test 1 -x 1", "", 2}, {"test 1 -EQ 1", "", 2}, {"test 1 eq 1", "", 2}, {"test 1 -eq", "", 2}, {"test -eq 1 1", "", 2}, {"test 1 -eq 1 1", "", 2}, {"test -eq 1", "", 2},
	})
}

// P13.2: questions of whole numbers.
func TestWholes(t *testing.T) {
	marks := []string{"-eq", "-ne", "-lt", "-le", "-gt", "-ge"}
	// How each one goes, of one that is below, of the same, and of one that is above.
	went := [][3]int{{1, 0, 1}, {0, 1, 0}, {0, 1, 1}, {0, 0, 1}, {1, 1, 0}, {1, 0, 0}}
	rising := []string{"-9223372036854775808", "-9223372036854775807", "-10", "-9", "-1", "0", "1", "9", "10", "4294967297", "9223372036854775806", "9223372036854775807"}
	for i, mark := range marks {
		for k, a := range rising {
			for m, b := range rising {
				at := 1
				if k < m {
					at = 0
				} else if k > m {
					at = 2
				}
				hold(t, []string{"test", a, mark, b}, "", went[i][at])
				hold(t, []string{"test", a, mark, strings.Replace(b, "-", "-00", 1)}, "", went[i][at])
			}
		}
		// Told otherwise, and the same.
		hold(t, []string{"test", "-0", mark, "000"}, "", went[i][1])
		hold(t, []string{"test", "007", mark, "7"}, "", went[i][1])
		hold(t, []string{"test", "010", mark, "9"}, "", went[i][2])
		for _, a := range []string{"", " ", "x", "1x", "x1", "1 ", " 1", "+1", "1.0", "1.", ".5", "-", "--1", "- 1", "1\n", "1e3", "0x1", "9223372036854775808", "-9223372036854775809", "99999999999999999999", "-n", "=", "１", "1\x00"} {
			hold(t, []string{"test", a, mark, "1"}, "", 2)
			hold(t, []string{"test", "1", mark, a}, "", 2)
			hold(t, []string{"test", a, mark, a}, "", 2)
		}
	}
}

// kinds are the forms of the table whose words are counted: what stands for others is written by a number that fits.
var kinds = []string{"hex 1", "unhex x31", "dec + 1 1", "dec - 1 1", "dec * 1 1", "dec / 1 1", "dec % 1 1", "dec cmp 1 1", "dec low 1", "dec true 1", "str len 1", "str index 1 1", "str sub 1 1 1", "str up 1", "str low 1", "str count 1", "str field 1 1", "test 1 = 1", "test -n 1", "test 1 -eq 1", "test 1 -ge 1"}

// P13.2: just so many words, and just such ones; what isn't so goes wrong.
func TestCounts(t *testing.T) {
	for _, kind := range kinds {
		words := strings.Split(kind, " ")
		if got := ask(words, "", 5); got.status != 0 || got.left != 5 || got.e != api.OK {
			t.Errorf("%q: %+v", words, got)
		}
		for n := 1; n < len(words); n++ {
			hold(t, words[:n], "", 2)
		}
		for _, more := range []string{"1", "", "-n", "+", "len"} {
			hold(t, append(words[:len(words):len(words)], more), "", 2)
			hold(t, append(words[:len(words):len(words)], more, "1"), "", 2)
			hold(t, append(words[:len(words):len(words)], "1", more, "1"), "", 2)
		}
	}
	for _, name := range []string{"dec", "str", "test"} {
		for _, part := range []string{"", " ", "x", "++", "+ ", "=", "**", "^", "//", "Cmp", "cmpx", "lo", "false", "length", "substr", "toupper", "LEN", "fields", "echo", "dec", "str", "test", "1", "-o", "-a", "-f", "==", "\x2b\x00", "\xff"} {
			for _, others := range [][]string{{}, {"1"}, {"1", "1"}, {"1", "1", "1"}} {
				hold(t, append([]string{name, part}, others...), "", 2)
				if name == "test" && len(others) == 2 && part != "=" {
					hold(t, []string{name, "1", part, "1"}, "", 2)
				}
			}
		}
	}
	// What one of them knows the others don't.
	holdAll(t, []ran{{"str cmp 1 1", "", 2}, {"str true 1", "", 2}, {"str + 1 1", "", 2}, {"dec len 1", "", 2}, {"dec up 1", "", 2}, {"dec = 1 1", "", 2}, {"test 1 + 1", "", 2}, {"test 1 cmp 1", "", 2}, {"test len 1", "", 2}, {"test 1 index 1", "", 2}, {"hex x31 1", "", 2}, {"dec 1 + 1", "", 2}, {"dec 1 cmp 1", "", 2}, {"str 1 len", "", 2}, {"test = 1 1", "", 2}})
}
