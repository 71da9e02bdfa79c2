package arith

import (
	"math"
	"math/big"
	"strings"
	"testing"

	"dragoman/api"
)

const (
	most  = math.MaxInt64
	least = math.MinInt64
)

// some are the variables of most tests: x and y have no number, and neither has z, that only begins with one.
func some() []api.Var {
	return []api.Var{
		{Name: "_", Value: "-3"},
		{Name: "a", Value: "5"},
		{Name: "a1", Value: "51"},
		{Name: "empty", Value: ""},
		{Name: "least", Value: "-9223372036854775808"},
		{Name: "most", Value: "9223372036854775807"},
		{Name: "nought", Value: "0"},
		{Name: "x", Value: "x"},
		{Name: "y", Value: " 1"},
		{Name: "z", Value: "1 "},
	}
}

// comes asks what a text comes to.
func comes(t *testing.T, s string, want int64) {
	t.Helper()
	if n, e := Eval(s, some()); n != want || e != api.OK {
		t.Errorf("Eval(%.60q): %d, %d, not %d", s, n, e, want)
	}
}

// refused asks why a text is refused.
func refused(t *testing.T, s string, want api.Errno) {
	t.Helper()
	if n, e := Eval(s, some()); n != 0 || e != want {
		t.Errorf("Eval(%.60q): %d, %d, not the error %d", s, n, e, want)
	}
}

// P10.1: ordinary texts, and the document's examples.
func TestEval(t *testing.T) {
	if n, e := Eval("2 + 3 * x", []api.Var{{Name: "x", Value: "4"}}); n != 14 || e != api.OK {
		t.Error(n, e)
	}
	for s, want := range map[string]int64{
		"1 || 1 / 0":                  1,
		"0":                           0,
		"7":                           7,
		"007":                         7,
		"000":                         0,
		"010+1":                       11,
		strings.Repeat("0", 99) + "8": 8,
		"(7)":                         7,
		"( ( 7 ) )":                   7,
		"1+2*3":                       7,
		"(1+2)*3":                     9,
		"2*(3+4)*5":                   70,
		"10-3-2":                      5,
		"10-(3-2)":                    9,
		"100/7%5":                     4,
		"100/(7%5)":                   50,
		"2*3%4":                       2,
		"1+1==2":                      1,
		"1<2==2>1":                    1,
		"3>2>1":                       0,
		"1<2<3":                       1,
		"5==5==5":                     0,
		"1||0&&0":                     1,
		"(1||0)&&0":                   0,
		"a":                           5,
		"a1":                          51,
		"a*a1+_":                      252,
		"_-_":                         0,
		"empty":                       0,
		"empty+1":                     1,
		"nothing":                     0,
		"nothing-1":                   -1,
		"A":                           0,
		"a_":                          0,
		"least":                       least,
		"most":                        most,
		"a<a1&&a1<most||x":            1,
		"(a-3)*(a+3)/(a-1)":           4,
	} {
		comes(t, s, want)
	}
}

// P10.1: each mark alone between two numbers.
func TestMarks(t *testing.T) {
	for s, want := range map[string]int64{
		"0||0": 0, "0||1": 1, "1||0": 1, "1||1": 1, "7||0": 1, "0||7": 1, "7||9": 1, "-1||0": 1, "0||-1": 1, "least||0": 1, "0||4294967296": 1,
		"0&&0": 0, "0&&1": 0, "1&&0": 0, "1&&1": 1, "7&&0": 0, "0&&7": 0, "7&&9": 1, "2&&1": 1, "4&&8": 1, "-1&&-7": 1, "least&&most": 1, "256&&4294967296": 1,
		"3==3": 1, "3==4": 0, "-3==3": 0, "least==least": 1, "least==most": 0, "0==empty": 1,
		"3!=3": 0, "3!=4": 1, "-3!=3": 1, "least!=least": 0, "least!=most": 1, "0!=empty": 0,
		"3<4": 1, "3<3": 0, "4<3": 0, "-4<-3": 1, "-1<0": 1, "least<most": 1, "most<least": 0, "9<10": 1,
		"3<=4": 1, "3<=3": 1, "4<=3": 0, "-4<=-3": 1, "least<=least": 1, "least<=most": 1, "most<=least": 0, "9<=10": 1,
		"3>4": 0, "3>3": 0, "4>3": 1, "-3>-4": 1, "0>-1": 1, "least>most": 0, "most>least": 1, "10>9": 1,
		"3>=4": 0, "3>=3": 1, "4>=3": 1, "-3>=-4": 1, "most>=most": 1, "least>=most": 0, "most>=least": 1, "10>=9": 1,
		"3+4": 7, "3-4": -1, "3*4": 12, "7/3": 2, "7%3": 1,
		"-4": -4, "+4": 4, "!4": 0, "!1": 0, "!0": 1, "!-1": 0, "!empty": 1, "!least": 0, "!4294967296": 0,
		"--4": 4, "++4": 4, "!!4": 1, "!!0": 0, "!!!4": 0, "-+4": -4, "+-4": -4, "-!0": -1, "!-0": 1, "!+0": 1, "+!0": 1, "-!4": 0, "-(3)": -3, "!(3-3)": 1, "-a": -5, "!a": 0, "+_": -3, "-_": 3,
	} {
		comes(t, s, want)
	}
}

// P10.1: blanks, tabs and bytes 10 stand anywhere but within numbers, names and marks.
func TestBlanks(t *testing.T) {
	const gap = "\x01"
	texts := map[string]int64{gap + "7" + gap: 7, gap + "a1" + gap: 51, gap + "(" + gap + "7" + gap + ")" + gap: 7}
	for mark, want := range map[string]int64{"||": 1, "&&": 1, "==": 0, "!=": 1, "<": 0, "<=": 0, ">": 1, ">=": 1, "+": 56, "-": 46, "*": 255, "/": 10, "%": 1} {
		texts[gap+"a1"+gap+mark+gap+"5"+gap] = want
		texts[gap+"51"+gap+mark+gap+"a"+gap] = want
		texts["("+gap+"a1"+gap+")"+gap+mark+gap+"("+gap+"a"+gap+")"] = want
	}
	for sign, want := range map[string]int64{"-": -5, "+": 5, "!": 0} {
		texts[gap+sign+gap+"a"+gap] = want
		texts[gap+sign+gap+"("+gap+"5"+gap+")"+gap] = want
		texts["0"+gap+"+"+gap+sign+gap+"5"] = want
	}
	for _, blanks := range []string{"", " ", "\t", "\n", "  ", " \t\n", "\n\n\t ", strings.Repeat(" \n", 500)} {
		for s, want := range texts {
			comes(t, strings.ReplaceAll(s, gap, blanks), want)
		}
	}
	for _, s := range []string{
		"1 2", "1\t2", "1\n2", "a 1", "a a1", "a\n1", "1 a", "a a", "- 1 2", // within numbers and names
		"1 | | 1", "1 & & 1", "1 = = 1", "1 ! = 1", "1 < = 1", "1 > = 1", "1 |\t| 1", "1 &\n& 1", "1 <\n= 1", "1 >\t= 1", "1 =\n= 1", "1 !\t= 1", // within marks
		"1\r+ 1", "1 \v+ 1", "1 +\f1", "1 + 1\r", "\r1", "1 +\x001", "1\x00", "\u00a01", "1\u00a0", "1 \u2003+ 1", "1\x85", // other bytes
	} {
		refused(t, s, api.ErrSyntax)
	}
}

// level is how much a mark binds.
func level(mark string) int {
	for i, l := range []string{"||", "&&", "== !=", "< <= > >=", "+ -", "* / %"} {
		for _, m := range strings.Fields(l) {
			if m == mark {
				return i
			}
		}
	}
	return -1
}

// P10.1: of each pair of marks, what binds more goes ahead; of one kind they are reckoned from the left.
func TestBinding(t *testing.T) {
	all := strings.Fields("|| && == != < <= > >= + - * / %")
	numbers := []string{"0", "1", "2", "3", "5", "7", "(0-2)", "(0-9)"}
	// Of these both ways come to the same, whatever the numbers are.
	same := map[string]bool{"|| ||": true, "&& &&": true, "+ +": true, "+ -": true, "* *": true}
	for _, first := range all {
		for _, second := range all {
			apart := false
			for _, a := range numbers {
				for _, b := range numbers {
					for _, c := range numbers {
						plain, left, right := a+first+b+second+c, "("+a+first+b+")"+second+c, a+first+"("+b+second+c+")"
						l, eL := Eval(left, nil)
						r, eR := Eval(right, nil)
						want, wantE := l, eL
						if level(first) < level(second) {
							want, wantE = r, eR
						}
						if n, e := Eval(plain, nil); n != want || e != wantE {
							t.Fatalf("Eval(%q): %d, %d, not %d, %d", plain, n, e, want, wantE)
						}
						apart = apart || l != r || eL != eR
					}
				}
			}
			if pair := first + " " + second; apart == same[pair] {
				t.Errorf("%s: these numbers tell it apart: %t", pair, apart)
			}
		}
	}
}

// P10.1: signs bind more than all marks.
func TestSigns(t *testing.T) {
	for s, want := range map[string]int64{
		"-2*3":         -6,
		"-7/2":         -3,
		"-7%4":         -3,
		"-2+3":         1,
		"-2-3":         -5,
		"-1<0":         1,
		"-1==-1":       1,
		"!1+1":         1,
		"!0*5":         5,
		"!2==0":        1,
		"!1||1":        1,
		"!0&&0":        0,
		"!1<1":         1,
		"2*-3":         -6,
		"2--3":         5,
		"2- -3":        5,
		"2+-3":         -1,
		"2-+3":         -1,
		"2++3":         5,
		"2-+-3":        5,
		"2- - -3":      -1,
		"7/-2":         -3,
		"7%-4":         3,
		"2<-3":         0,
		"2>-3":         1,
		"2>=-3":        1,
		"2<=!0":        0,
		"1==!0":        1,
		"1!=!0":        0,
		"1!=-1":        1,
		"0||!0":        1,
		"1&&!1":        0,
		"1&&-1":        1,
		"-9-9":         -18,
		"0-a*a":        -25,
		"-a*-a":        25,
		"!a==!a1":      1,
		"-(1+2)*(3)":   -9,
		"!(1)+!(0)":    1,
		"- ( - ( 2 ))": 2,
	} {
		comes(t, s, want)
	}
}

// P10.1: sums, differences and products go round at 2^64.
func TestRound(t *testing.T) {
	for s, want := range map[string]int64{
		"most+1":                least,
		"1+most":                least,
		"most+most":             -2,
		"least+least":           0,
		"least-1":               most,
		"least-most":            1,
		"most-least":            -1,
		"0-least":               least,
		"-least":                least,
		"--least":               least,
		"least+-1":              most,
		"-1-most":               least,
		"-2-most":               most,
		"least*-1":              least,
		"-1*least":              least,
		"least*2":               0,
		"most*2":                -2,
		"most*most":             1,
		"least*least":           0,
		"least*most":            least,
		"most*-1":               least + 1,
		"4294967296*4294967296": 0,
		"4294967296*2147483648": least,
		"3037000500*3037000500": -9223372036709301616,
		"9223372036854775807+9223372036854775807+2":       0,
		"-9223372036854775807-1":                          least,
		"-9223372036854775807-2":                          most,
		"most+1<most":                                     1,
		"6364136223846793005*1442695040888963407":         mod("6364136223846793005", "1442695040888963407"),
		"9223372036854775807*9223372036854775806/1000000": mod("9223372036854775807", "9223372036854775806") / 1000000,
	} {
		comes(t, s, want)
	}
}

// mod is a product, round at 2^64.
func mod(a, b string) int64 {
	x, _ := new(big.Int).SetString(a, 10)
	y, _ := new(big.Int).SetString(b, 10)
	return around(x.Mul(x, y))
}

// around is a number, round at 2^64.
func around(n *big.Int) int64 {
	n = new(big.Int).And(n, new(big.Int).SetUint64(math.MaxUint64))
	return int64(n.Uint64())
}

// P10.1: quotients towards 0, and what is left.
func TestQuotients(t *testing.T) {
	for s, want := range map[string]int64{
		"7/2": 3, "-7/2": -3, "7/-2": -3, "-7/-2": 3,
		"7%2": 1, "-7%2": -1, "7%-2": 1, "-7%-2": -1,
		"8/2": 4, "-8/2": -4, "8/-2": -4, "-8/-2": 4,
		"8%2": 0, "-8%2": 0, "8%-2": 0, "-8%-2": 0,
		"1/2": 0, "-1/2": 0, "1/-2": 0, "-1/-2": 0,
		"1%2": 1, "-1%2": -1, "1%-2": 1, "-1%-2": -1,
		"0/5": 0, "0%5": 0, "0/-5": 0, "0%-5": 0,
		"least/-1": least, "least%-1": 0, "least/1": least, "least%1": 0,
		"most/-1": least + 1, "most%-1": 0,
		"least/2": least / 2, "least/-2": 1 << 62, "least%10": -8, "least%-10": -8, "most%10": 7, "most%-10": 7,
		"least/least": 1, "least%least": 0, "most/least": 0, "most%least": most, "least/most": -1, "least%most": -1, "1/least": 0, "1%least": 1,
	} {
		comes(t, s, want)
	}
}

// P10.1: each pair of numbers, held against whole numbers of any size.
func TestReckonAll(t *testing.T) {
	l := []int64{0, 1, -1, 2, -2, 3, 7, -7, 10, 255, 256, 1 << 31, -1 << 31, 1<<32 - 1, 1 << 32, 1 << 62, -1 << 62, 1<<62 + 1, most, most - 1, least, least + 1}
	told := func(n int64) string {
		if n < 0 {
			return "(" + new(big.Int).SetInt64(n+1).String() + "-1)"
		}
		return new(big.Int).SetInt64(n).String()
	}
	for _, a := range l {
		for _, b := range l {
			x, y := big.NewInt(a), big.NewInt(b)
			for mark, n := range map[string]*big.Int{"+": new(big.Int).Add(x, y), "-": new(big.Int).Sub(x, y), "*": new(big.Int).Mul(x, y)} {
				comes(t, told(a)+mark+told(b), around(n))
			}
			for mark, so := range map[string]bool{"<": a < b, "<=": a <= b, ">": a > b, ">=": a >= b, "==": a == b, "!=": a != b, "||": a != 0 || b != 0, "&&": a != 0 && b != 0} {
				want := int64(0)
				if so {
					want = 1
				}
				comes(t, told(a)+mark+told(b), want)
			}
			if b == 0 {
				refused(t, told(a)+"/"+told(b), api.ErrZero)
				refused(t, told(a)+"%"+told(b), api.ErrZero)
				continue
			}
			q, m := new(big.Int).QuoRem(x, y, new(big.Int))
			comes(t, told(a)+"/"+told(b), around(q))
			comes(t, told(a)+"%"+told(b), around(m))
		}
	}
}

// P10.1: a name's value is a number as a whole, or has no bytes.
func TestValues(t *testing.T) {
	for value, want := range map[string]int64{
		"": 0, "0": 0, "-0": 0, "12": 12, "-12": -12, "007": 7, "-007": -7, "9223372036854775807": most, "-9223372036854775808": least, strings.Repeat("0", 70000) + "9": 9,
	} {
		if n, e := Eval("v", []api.Var{{Name: "v", Value: value}}); n != want || e != api.OK {
			t.Errorf("%.40q: %d, %d", value, n, e)
		}
		if n, e := Eval("0-v*2", []api.Var{{Name: "v", Value: value}}); n != -2*want || e != api.OK {
			t.Errorf("%.40q: %d, %d", value, n, e)
		}
	}
	for _, value := range []string{
		"x", "1x", "1 ", " 1", " ", "\n", "1\n", "-", "--1", "- 1", "+1", "1.5", "1-", "1+1", "(1)", "v", "0x10", "1e3", "\x00", "1\x00", "\xff",
		"9223372036854775808", "-9223372036854775809", "18446744073709551616", strings.Repeat("9", 70000),
	} {
		for _, s := range []string{"v", "v+1", "-v", "!v", "(v)", "1&&v", "0||v", "v||1", "v&&0", "0*v", "v==v"} {
			if n, e := Eval(s, []api.Var{{Name: "v", Value: value}}); n != 0 || e != api.ErrForm {
				t.Errorf("%s, %.40q: %d, %d", s, value, n, e)
			}
		}
		if n, e := Eval("w", []api.Var{{Name: "v", Value: value}}); n != 0 || e != api.OK {
			t.Errorf("%.40q: %d, %d", value, n, e)
		}
	}
}

// P10.1: a name is as long as it can be, and is that of a variable as a whole.
func TestNames(t *testing.T) {
	long := strings.Repeat("Ab_9", 5000)
	vars := []api.Var{{Name: "A", Value: "1"}, {Name: long, Value: "2"}, {Name: long + "x", Value: "3"}, {Name: "_", Value: "4"}, {Name: "_0", Value: "5"}, {Name: "a", Value: "6"}, {Name: "zZ", Value: "7"}}
	if !Right(vars) {
		t.Fatal("these should rise")
	}
	for s, want := range map[string]int64{
		"A": 1, long: 2, long + "x": 3, long + "y": 0, "_": 4, "_0": 5, "__": 0, "_00": 0, "a": 6, "A1": 0, "b": 0, "zZ": 7, "zz": 0, "z": 0, "ZZ": 0,
		"A+_+_0+a+zZ": 23, "A-" + long: -1, "(" + long + "x)*a": 18, "A<_0": 1, "_0%_": 1, "a/A": 6,
	} {
		if n, e := Eval(s, vars); n != want || e != api.OK {
			t.Errorf("%.40q: %d, %d, not %d", s, n, e, want)
		}
	}
}
