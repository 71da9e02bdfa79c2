package arith

import (
	"strings"
	"testing"

	"dragoman/api"
)

// P10.1: what can't stand, or is missing.
func TestSyntax(t *testing.T) {
	for _, s := range []string{
		"", " ", "\t", "\n", " \t\n ", // nothing
		"(", ")", "()", "( )", "(1", "1)", "((1)", "(1))", "(1)(2)", "(1)2", "1(2)", "a(1)", "(1+2", "1+2)", "(1+)", "(+", "1+(", "1*()", ")1(", "1)+(2", "[1]", "{1}", // brackets
		"1 2", "a b", "1 a", "a 1", "1a", "1_", "0x10", "1e3", "12 34 56", "a !b", "1!", "a!", "1 !1", // two side by side
		"+", "-", "!", "*", "/", "%", "<", "<=", ">", ">=", "==", "!=", "||", "&&", "1+", "1-", "1*", "1/", "1%", "1<", "1<=", "1>", "1>=", "1==", "1!=", "1||", "1&&", "a+ ", "a\n-\n", // nothing behind
		"*1", "/1", "%1", "<1", "<=1", ">1", ">=1", "==1", "!=1", "||1", "&&1", "1+*2", "1*/2", "1-%2", "1<>2", "1<<2", "1>>2", "1**2", "1//2", "1==<2", "-*1", "!*1", "(*1)", "1+==1", "1||&&1", "1&&||1", "1|||1", "1&&&1", "1===1", "1!==1", "1=!1", "1=>1", "1=<1", "1<==1", "1>==1", "!=", "! =1", // a mark where a number would stand
		"1=1", "a=1", "=", "=1", "1=", "1|1", "1&1", "|", "&", "1|", "1&", "|1", "&1", "1|&1", // halves of marks
		"1,2", "1;2", "1?2:3", "~1", "1^2", "$a", "${a}", "$1", "#1", "1#2", "1.5", ".5", "1.", "'1'", "\"1\"", "`1`", "\\1", "@", "a.b", "a-b.", "a$", "1:2", "a++", "a--", "a+=1", // what isn't in it
		"\x00", "1\x00", "\x001", "\xff", "1+\xff", "a\x80", "é", "aé", "１", "−1", "1\r\n", // stray bytes
	} {
		refused(t, s, api.ErrSyntax)
	}
}

// P10.1: each byte alone, ahead of a number, behind one and between two.
func TestBytes(t *testing.T) {
	const letters = "ABCDEFGHIJKLMNOPQRSTUVWXYZabcdefghijklmnopqrstuvwxyz_"
	in := func(b, of string) bool { return strings.Contains(of, b) }
	for i := range 256 {
		b := string([]byte{byte(i)})
		for s, stands := range map[string]bool{
			b:              in(b, letters+"0123456789"),
			b + "1":        in(b, letters+"0123456789"+"-+!"+" \t\n"),
			b + " 1":       in(b, "-+!"+" \t\n"),
			"1" + b:        in(b, "0123456789"+" \t\n"),
			"1 " + b:       in(b, " \t\n"),
			"n" + b:        in(b, letters+"0123456789"+" \t\n"),
			"1" + b + "1":  in(b, "0123456789"+"+-*/%<>"),
			"1 " + b + "n": in(b, "+-*/%<>"),
			"1+" + b:       in(b, letters+"0123456789"),
			"(1" + b:       in(b, ")"),
			b + "1)":       in(b, "("),
		} {
			want := api.ErrSyntax
			if stands {
				want = api.OK
			}
			if n, e := Eval(s, []api.Var{{Name: "n", Value: "1"}}); e != want || e != api.OK && n != 0 {
				t.Errorf("Eval(%q): %d, %d, not %d", s, n, e, want)
			}
		}
	}
}

// P10.1: figures up to the greatest number, wherever they stand; a greater one can't stand there.
func TestFigures(t *testing.T) {
	for s, want := range map[string]int64{
		"9223372036854775806":  most - 1,
		"9223372036854775807":  most,
		"-9223372036854775807": -most,
		"000" + strings.Repeat("0", 1000) + "9223372036854775807": most,
		"9223372036854775807 + 0":                                 most,
		"(9223372036854775807)":                                   most,
		"1||9223372036854775807":                                  1,
	} {
		comes(t, s, want)
	}
	for _, great := range []string{"9223372036854775808", "09223372036854775808", "9223372036854775810", "9999999999999999999", "18446744073709551616", "18446744073709551617", "340282366920938463463374607431768211457", strings.Repeat("9", 70000)} {
		for _, s := range []string{great, "-" + great, "0-" + great, "(" + great + ")", "1||" + great, "0&&" + great, great + "||1", "1/0+" + great, "x+" + great, great + "a", great + " 1", "!" + great} {
			refused(t, s, api.ErrSyntax)
		}
	}
}

// signs are many signs and brackets, one in another, that look stray; and how they are closed.
func signs(of string, many int, seed uint64) (string, string) {
	var out strings.Builder
	next := row(seed)
	open := 0
	for range many {
		c := of[next()%uint64(len(of))]
		if c == '(' {
			open++
		}
		out.WriteByte(c)
	}
	return out.String(), strings.Repeat(")", open)
}

// row is a row of numbers that look stray, but are the same in each run.
func row(seed uint64) func() uint64 {
	return func() uint64 {
		seed = seed*6364136223846793005 + 1442695040888963407
		x := seed ^ seed>>29
		return x ^ x<<17
	}
}

// P10.1: signs and brackets stand in at most 29 others.
func TestDeep(t *testing.T) {
	for _, of := range []string{"(", "-", "+", "!", "-+", "(-", "(!", "(-+!", "-+!"} {
		for seed := range uint64(40) {
			for many := 25; many <= 35; many++ {
				ahead, behind := signs(of, many, seed+1)
				for _, s := range []string{ahead + "1" + behind, ahead + "a" + behind, " " + strings.Join(strings.Split(ahead, ""), "\n") + "1" + behind, "2*" + ahead + "1" + behind, ahead + "1" + behind + "+1"} {
					want := api.OK
					if many > 30 {
						want = api.ErrDeep
					}
					if n, e := Eval(s, some()); e != want || e != api.OK && n != 0 {
						t.Errorf("Eval(%q): %d, %d, not %d", s, n, e, want)
					}
				}
			}
		}
	}
	comes(t, strings.Repeat("-", 30)+"7", 7)
	comes(t, strings.Repeat("-", 29)+"7", -7)
	comes(t, strings.Repeat("!", 29)+"7", 0)
	comes(t, strings.Repeat("(", 30)+"7"+strings.Repeat(")", 30), 7)
	comes(t, strings.Repeat("(-", 15)+"7"+strings.Repeat(")", 15), -7)
}

// P10.1: what is closed, and marks between two numbers, count for nothing.
func TestDeepEnds(t *testing.T) {
	full, closed := strings.Repeat("(", 30), strings.Repeat(")", 30)
	minus := strings.Repeat("-", 30)
	for s, want := range map[string]int64{
		full + "1" + closed + "+" + full + "2" + closed:                  3,
		minus + "1" + "-" + minus + "2":                                  -1,
		minus + "1" + minus + "-2":                                       -1,
		strings.Repeat("(1)+", 200) + "1":                                201,
		strings.Repeat("-1-", 200) + "1":                                 197,
		strings.Repeat("1--", 200) + "1":                                 201,
		"1" + strings.Repeat("-1", 9999):                                 -9998,
		"0" + strings.Repeat("+(!0)", 9999):                              9999,
		full + "1" + strings.Repeat("+1", 99) + closed:                   100,
		full + "1-1-1" + closed:                                          -1,
		strings.Repeat("(", 29) + "-1" + "--2" + strings.Repeat(")", 29): 1,
	} {
		comes(t, s, want)
	}
	for _, s := range []string{
		full + "-1" + closed,
		full + "1--1" + closed,
		full + "1*!1" + closed,
		full + "1+(1)" + closed,
		minus + "(1)",
		minus + "1-" + minus + "-1",
		strings.Repeat("(", 29) + "---1" + strings.Repeat(")", 29),
		strings.Repeat("(", 29) + "1---1" + strings.Repeat(")", 29),
	} {
		refused(t, s, api.ErrDeep)
	}
}

// P10.1: of what can't stand and what is too deep the first one from the left is told.
func TestFirst(t *testing.T) {
	deep := strings.Repeat("(", 31)
	full, closed := strings.Repeat("(", 30), strings.Repeat(")", 30)
	for _, s := range []string{
		deep, deep + "1", deep + ")", deep + "1 2", deep + "*", deep + "9223372036854775808", full + "-", full + "+*", full + "!", full + "!=1", strings.Repeat("!", 31) + "=", strings.Repeat("-", 31) + "*1", full + " \n-", "1+" + deep + "+", deep + "1" + closed + "))", full + "1" + closed + "+" + deep,
		"1/0+" + deep, "x+" + deep, "1||" + deep, "0&&" + deep,
	} {
		refused(t, s, api.ErrDeep)
	}
	for _, s := range []string{
		"*" + deep, "1 " + deep, "1+*" + deep, ")" + deep, "9223372036854775808+" + deep, "()+" + deep, full + "*-1" + closed, full + "1 -" + closed, full + "1 (", full + "1" + closed + ")+" + deep, full + "1" + closed + deep, full + ")-", full, full + "1", full[1:] + "-", "=" + deep, "1=" + deep, "1&" + deep,
	} {
		refused(t, s, api.ErrSyntax)
	}
}

// P10.1: both go ahead of what can't be reckoned, wherever that stands; of that the first is told that is come to.
func TestReckonedLast(t *testing.T) {
	for s, want := range map[string]api.Errno{
		"x":                     api.ErrForm,
		"y":                     api.ErrForm,
		"z":                     api.ErrForm,
		"-x":                    api.ErrForm,
		"x x":                   api.ErrSyntax,
		"x+":                    api.ErrSyntax,
		"x)":                    api.ErrSyntax,
		"(x":                    api.ErrSyntax,
		"x+9223372036854775808": api.ErrSyntax,
		"1/0":                   api.ErrZero,
		"1%0":                   api.ErrZero,
		"0/0":                   api.ErrZero,
		"0%0":                   api.ErrZero,
		"1/empty":               api.ErrZero,
		"1%nothing":             api.ErrZero,
		"1/nought":              api.ErrZero,
		"least/(1-1)":           api.ErrZero,
		"1/!1":                  api.ErrZero,
		"1/-0":                  api.ErrZero,
		"1/(0&&x)":              api.ErrZero,
		"1/0)":                  api.ErrSyntax,
		"1/0 1":                 api.ErrSyntax,
		"1%0+":                  api.ErrSyntax,
		"(1/0":                  api.ErrSyntax,
		"x/0":                   api.ErrForm,
		"0/x":                   api.ErrForm,
		"1/0+x":                 api.ErrZero,
		"1/0/x":                 api.ErrZero,
		"x+1/0":                 api.ErrForm,
		"1/0*x":                 api.ErrZero,
		"1*x/0":                 api.ErrForm,
		"1/(0*x)":               api.ErrForm,
		"1+x*(1/0)":             api.ErrForm,
		"(1/0)==x":              api.ErrZero,
		"x==(1/0)":              api.ErrForm,
		"1%0<x":                 api.ErrZero,
		"x<1%0":                 api.ErrForm,
		"1/0||x":                api.ErrZero,
		"x||1/0":                api.ErrForm,
		"1/0&&x":                api.ErrZero,
		"x&&1/0":                api.ErrForm,
		"0||1/0":                api.ErrZero,
		"0||x":                  api.ErrForm,
		"1&&1%0":                api.ErrZero,
		"1&&x":                  api.ErrForm,
		"!(1/0)":                api.ErrZero,
		"1/0-1/0":               api.ErrZero,
		"0*(1/0)":               api.ErrZero,
		"a-a1/(a-5)":            api.ErrZero,
	} {
		refused(t, s, want)
	}
}

// P10.1: what stands on the right of || behind what isn't 0, and of && behind 0, is not reckoned; but it must be able to stand there.
func TestNotReckoned(t *testing.T) {
	for s, want := range map[string]int64{
		"1||1/0":           1,
		"1||1%0":           1,
		"1||x":             1,
		"-7||x":            1,
		"least||x":         1,
		"4294967296||x":    1,
		"a||x":             1,
		"1||x||x":          1,
		"0||1||x":          1,
		"0||0||2||1/0||x":  1,
		"1||x&&x":          1,
		"1||(x||x/0)":      1,
		"1||!x+-x*(x%0)":   1,
		"0&&1/0":           0,
		"0&&1%0":           0,
		"0&&x":             0,
		"empty&&x":         0,
		"nothing&&x":       0,
		"0&&x&&x":          0,
		"1&&0&&x":          0,
		"1&&2&&0&&1/0&&x":  0,
		"0&&x||0":          0,
		"0&&x||7":          1,
		"1&&0&&x||7||x":    1,
		"0&&(x||1/0)||1":   1,
		"1||0&&x||x":       1,
		"1&&1||x":          1,
		"(1||x)+(0&&x)":    1,
		"(1||x)*7+3":       10,
		"5+(0&&1/0)-2":     3,
		"!(0&&x)":          1,
		"-(1||x)":          -1,
		"1==1||x":          1,
		"1!=1&&x":          0,
		"(1||x)&&(0&&x)":   0,
		"0&&(1||x)":        0,
		"1||(0||1/0)":      1,
		"0||(1||1/0)":      1,
		"1&&(0&&1/0)":      0,
		"0&&(1&&1/0)||a":   1,
		"(0&&x)||(1||x)":   1,
		"0*((1||x)-1)||a1": 1,
	} {
		comes(t, s, want)
	}
	for s, want := range map[string]api.Errno{
		"(1||x)+x":                            api.ErrForm,
		"(0&&x)+1/0":                          api.ErrZero,
		"(1||x)&&x":                           api.ErrForm,
		"(0&&x)||1/0":                         api.ErrZero,
		"0&&x||x":                             api.ErrForm,
		"1&&0||1/0":                           api.ErrZero,
		"1||x+":                               api.ErrSyntax,
		"1||":                                 api.ErrSyntax,
		"1||x x":                              api.ErrSyntax,
		"1||*":                                api.ErrSyntax,
		"1||(x":                               api.ErrSyntax,
		"1||x)":                               api.ErrSyntax,
		"0&&":                                 api.ErrSyntax,
		"0&&()":                               api.ErrSyntax,
		"0&&x 1":                              api.ErrSyntax,
		"0&&$":                                api.ErrSyntax,
		"1||x=1":                              api.ErrSyntax,
		"1||x||":                              api.ErrSyntax,
		"0&&1/0&&":                            api.ErrSyntax,
		"1||x&&*":                             api.ErrSyntax,
		"1||" + strings.Repeat("-", 31) + "x": api.ErrDeep,
		"0&&" + strings.Repeat("(", 31):       api.ErrDeep,
	} {
		refused(t, s, want)
	}
}
