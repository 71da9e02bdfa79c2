package hex

import (
	"fmt"
	"math"
	"math/big"
	"strings"
	"testing"

	"dragoman/api"
)

// everyByte is a text of all bytes, from 0 to 255.
func everyByte() string {
	b := make([]byte, 256)
	for i := range b {
		b[i] = byte(i)
	}
	return string(b)
}

// row is a row of numbers that look stray, but are the same in each run.
func row(seed uint64) func() uint64 {
	return func() uint64 {
		seed = seed*6364136223846793005 + 1442695040888963407
		x := seed ^ seed>>29
		return x ^ x<<17
	}
}

// texts are ordinary texts, edges, and some that look stray.
func texts() []string {
	l := []string{"", "Az", "\x00", "\xff", "\x00\xff", "x", "x41", "-", "_", "a\nb", "naïve", "'\"$`\\", everyByte(), strings.Repeat("ab\x00", 30000)}
	next := row(1)
	for i := range 300 {
		b := make([]byte, i%40)
		for k := range b {
			b[k] = byte(next())
		}
		l = append(l, string(b))
	}
	return l
}

// numbers are ordinary numbers, edges and their neighbours, and some that look stray.
func numbers() []int64 {
	l := []int64{0, 1, -1, 7, -7, 9, 10, -9, -10, 99, 100, -100, 1000000, math.MaxInt32, math.MinInt32, math.MaxInt64, math.MaxInt64 - 1, math.MinInt64, math.MinInt64 + 1}
	for p := int64(1); p < 1000000000000000000; p *= 10 {
		l = append(l, p-1, p, p+1, -p-1, -p, -p+1)
	}
	next := row(2)
	for i := range 300 {
		l = append(l, int64(next())>>(i%64))
	}
	return l
}

// P1.1: x, and two digits of each byte, the higher one first.
func TestHex(t *testing.T) {
	for s, want := range map[string]string{
		"":                 "x",
		"Az":               "x417a",
		"\x00":             "x00",
		"\xff":             "xff",
		"\x00\xff":         "x00ff",
		"\xff\x00":         "xff00",
		"\x0f\xf0":         "x0ff0",
		"\xab\xcd\xef":     "xabcdef",
		"\x01#Eg\x89":      "x0123456789",
		"x":                "x78",
		"é":                "xc3a9",
		"a\nb c":           "x610a622063",
		"\xed\xa0\x80\xfe": "xeda080fe",
	} {
		if got := Hex(s); got != want {
			t.Errorf("Hex(%q): %q, not %q", s, got, want)
		}
	}
	for _, s := range texts() {
		if got, want := Hex(s), fmt.Sprintf("x%x", s); got != want {
			t.Errorf("Hex(%q): %q, not %q", s, got, want)
		}
	}
}

// P1.1: what is a text's Hex is that text.
func TestUnhex(t *testing.T) {
	for s, want := range map[string]string{
		"x":           "",
		"x417a":       "Az",
		"x00":         "\x00",
		"xff":         "\xff",
		"x00ff":       "\x00\xff",
		"xabcdef":     "\xab\xcd\xef",
		"x0123456789": "\x01#Eg\x89",
		"x78":         "x",
	} {
		if got, e := Unhex(s); got != want || e != api.OK {
			t.Errorf("Unhex(%q): %q, %d, not %q", s, got, e, want)
		}
	}
}

// P1.1: what is no text's Hex is not of the form.
func TestUnhexRefuses(t *testing.T) {
	for _, s := range []string{
		"", "4", "41", "417", "417a", "X", "X41", "X417a", "y41", "_41", "\x0041", // no x ahead
		"x4", "x417", "x41 ", " x41", // half a byte
		"x4A", "xA4", "xFF", "xfF", "xFf", "x417A", // capital digits
		"x4g", "xg4", "x4G", "x 1", "x1 ", "x-1", "x+1", "x4/", "x4:", "x4@", "x4`", "x\x00\x00", "x\xff\xff", "x0x", "xx41x", "x41\n\n", "x４", // no digits
		Hex(everyByte()) + "0", Hex(everyByte()) + "0G", "X" + Hex(everyByte())[1:],
	} {
		if got, e := Unhex(s); got != "" || e != api.ErrForm {
			t.Errorf("Unhex(%q): %q, %d", s, got, e)
		}
	}
}

// P1.1: of two bytes behind x just those are read that are digits which Hex tells.
func TestUnhexPairs(t *testing.T) {
	const small = "0123456789abcdef"
	for a := range 256 {
		for b := range 256 {
			high, low := strings.IndexByte(small, byte(a)), strings.IndexByte(small, byte(b))
			want, wantE := "", api.ErrForm
			if high >= 0 && low >= 0 {
				want, wantE = string([]byte{byte(16*high + low)}), api.OK
			}
			if got, e := Unhex(string([]byte{'x', byte(a), byte(b)})); got != want || e != wantE {
				t.Errorf("Unhex of x, %d, %d: %q, %d, not %q, %d", a, b, got, e, want, wantE)
			}
		}
	}
}

// P1.1: a digit's number, of capital ones the same; -1 of all other bytes.
func TestDigit(t *testing.T) {
	for i := range 256 {
		c := byte(i)
		want := strings.IndexByte("0123456789abcdef", c)
		if k := strings.IndexByte("ABCDEF", c); k >= 0 {
			want = 10 + k
		}
		if got := Digit(c); got != want {
			t.Errorf("Digit(%d): %d, not %d", c, got, want)
		}
	}
}

// P1.2: decimal figures, - ahead below 0, none needless.
func TestFigures(t *testing.T) {
	for n, want := range map[int64]string{
		0:                 "0",
		7:                 "7",
		10:                "10",
		-1:                "-1",
		-10:               "-10",
		1000000:           "1000000",
		math.MaxInt64:     "9223372036854775807",
		math.MaxInt64 - 1: "9223372036854775806",
		math.MinInt64:     "-9223372036854775808",
		math.MinInt64 + 1: "-9223372036854775807",
	} {
		if got := Figures(n); got != want {
			t.Errorf("Figures(%d): %q", n, got)
		}
	}
	for _, n := range numbers() {
		if got, want := Figures(n), big.NewInt(n).String(); got != want {
			t.Errorf("Figures(%d): %q", n, got)
		}
	}
}

// P1.2: the longest beginning that is figures, with or without a - ahead.
func TestWhole(t *testing.T) {
	nines, noughts := strings.Repeat("9", 70000), strings.Repeat("0", 70000)
	for _, x := range []struct {
		s    string
		n    int64
		used int
		e    api.Errno
	}{
		// ordinary ones
		{"0", 0, 1, api.OK},
		{"12", 12, 2, api.OK},
		{"12a", 12, 2, api.OK},
		{"-7", -7, 2, api.OK},
		{"-10 ", -10, 3, api.OK},
		{"3.5", 3, 1, api.OK},
		{"1e3", 1, 1, api.OK},
		{"0x10", 0, 1, api.OK},
		{"1_000", 1, 1, api.OK},
		{"5-3", 5, 1, api.OK},
		{"-5-3", -5, 2, api.OK},
		{"8\x00", 8, 1, api.OK},
		{"8\xff", 8, 1, api.OK},
		{"1/", 1, 1, api.OK},
		{"1:", 1, 1, api.OK},
		{"1234567890", 1234567890, 10, api.OK},
		// needless noughts, - and nought
		{"007", 7, 3, api.OK},
		{"-007", -7, 4, api.OK},
		{"000", 0, 3, api.OK},
		{"-0", 0, 2, api.OK},
		{"-00x", 0, 3, api.OK},
		{noughts, 0, 70000, api.OK},
		{noughts + "8", 8, 70001, api.OK},
		{"-" + noughts + "8", -8, 70002, api.OK},
		{"0009223372036854775807", math.MaxInt64, 22, api.OK},
		{"-0009223372036854775808", math.MinInt64, 23, api.OK},
		{"0009223372036854775808", 0, 0, api.ErrOver},
		{"-0009223372036854775809", 0, 0, api.ErrOver},
		// the bounds, and the numbers next to them
		{"9223372036854775806", math.MaxInt64 - 1, 19, api.OK},
		{"9223372036854775807", math.MaxInt64, 19, api.OK},
		{"9223372036854775807 ", math.MaxInt64, 19, api.OK},
		{"9223372036854775808", 0, 0, api.ErrOver},
		{"9223372036854775808 ", 0, 0, api.ErrOver},
		{"9223372036854775809", 0, 0, api.ErrOver},
		{"-9223372036854775807", math.MinInt64 + 1, 20, api.OK},
		{"-9223372036854775808", math.MinInt64, 20, api.OK},
		{"-9223372036854775808x", math.MinInt64, 20, api.OK},
		{"-9223372036854775809", 0, 0, api.ErrOver},
		{"9223372036854775810", 0, 0, api.ErrOver},
		{"-9223372036854775810", 0, 0, api.ErrOver},
		{"9999999999999999999", 0, 0, api.ErrOver},
		{"92233720368547758070", 0, 0, api.ErrOver},
		{"-92233720368547758080", 0, 0, api.ErrOver},
		// such as would be small again, if reckoning went round
		{"18446744073709551615", 0, 0, api.ErrOver},
		{"18446744073709551616", 0, 0, api.ErrOver},
		{"18446744073709551617", 0, 0, api.ErrOver},
		{"-18446744073709551616", 0, 0, api.ErrOver},
		{"-18446744073709551617", 0, 0, api.ErrOver},
		{"36893488147419103233", 0, 0, api.ErrOver},
		{"340282366920938463463374607431768211457", 0, 0, api.ErrOver},
		{nines, 0, 0, api.ErrOver},
		{"-" + nines, 0, 0, api.ErrOver},
		{nines + "a", 0, 0, api.ErrOver},
		// none
		{"", 0, 0, api.ErrForm},
		{"-", 0, 0, api.ErrForm},
		{"--", 0, 0, api.ErrForm},
		{"--1", 0, 0, api.ErrForm},
		{"-a", 0, 0, api.ErrForm},
		{"-\x00", 0, 0, api.ErrForm},
		{"- 1", 0, 0, api.ErrForm},
		{"+1", 0, 0, api.ErrForm},
		{" 1", 0, 0, api.ErrForm},
		{"\n1", 0, 0, api.ErrForm},
		{"a", 0, 0, api.ErrForm},
		{"x41", 0, 0, api.ErrForm},
		{".5", 0, 0, api.ErrForm},
		{"/", 0, 0, api.ErrForm},
		{":", 0, 0, api.ErrForm},
		{"\x00", 0, 0, api.ErrForm},
		{"\xff", 0, 0, api.ErrForm},
		{"１", 0, 0, api.ErrForm},
	} {
		if n, used, e := Whole(x.s); n != x.n || used != x.used || e != x.e {
			t.Errorf("Whole(%.40q): %d, %d, %d, not %d, %d, %d", x.s, n, used, e, x.n, x.used, x.e)
		}
	}
}

// P1.2: figures of all lengths, held against numbers of any size.
func TestWholeOfFigures(t *testing.T) {
	next := row(3)
	for i := range 4000 {
		b := []byte("-")
		for range 1 + i%24 {
			b = append(b, '0'+byte(next()%10))
		}
		for _, s := range []string{string(b), string(b[1:])} {
			wantE, wantUsed := api.OK, len(s)
			want, _ := new(big.Int).SetString(s, 10)
			if !want.IsInt64() {
				want, wantUsed, wantE = big.NewInt(0), 0, api.ErrOver
			}
			for _, behind := range []string{"", " ", "-1", "a"} {
				if n, used, e := Whole(s + behind); n != want.Int64() || used != wantUsed || e != wantE {
					t.Errorf("Whole(%q): %d, %d, %d", s+behind, n, used, e)
				}
			}
		}
	}
}

// P1.3: a letter or _ ahead, letters, _ and figures behind.
func TestIsName(t *testing.T) {
	for s, want := range map[string]bool{
		"a": true, "z": true, "A": true, "Z": true, "_": true, "__": true, "a1": true, "_9": true, "NR": true, "x417a": true, "aZ_09": true,
		"": false, "0": false, "9_": false, "1a": false, "a-": false, "-a": false, " a": false, "a ": false, "a b": false, "a\n": false, "a.b": false, "a$": false, "A\x80": false, "\x80A": false, "é": false, "aé": false, "a\x00": false, "\x00": false, "\xff": false,
		strings.Repeat("a0_", 30000): true, strings.Repeat("a0_", 30000) + "-": false,
	} {
		if got := IsName(s); got != want {
			t.Errorf("IsName(%.40q): %t", s, got)
		}
	}
}

// P1.3: each byte at each place.
func TestIsNameBytes(t *testing.T) {
	const letters = "ABCDEFGHIJKLMNOPQRSTUVWXYZabcdefghijklmnopqrstuvwxyz_"
	for i := range 256 {
		c := string([]byte{byte(i)})
		first := strings.Contains(letters, c)
		behind := strings.Contains(letters+"0123456789", c)
		if IsName(c) != first || IsName(c+"a") != first {
			t.Errorf("IsName: the byte %d ahead", i)
		}
		if IsName("a"+c) != behind || IsName("_b"+c+"9") != behind {
			t.Errorf("IsName: the byte %d behind", i)
		}
	}
}

// P1.4: what was told is read as it was.
func TestToldAndRead(t *testing.T) {
	for _, s := range texts() {
		if got, e := Unhex(Hex(s)); got != s || e != api.OK {
			t.Errorf("Unhex(Hex(%q)): %q, %d", s, got, e)
		}
	}
	for _, n := range numbers() {
		told := Figures(n)
		for _, behind := range []string{"", " ", "x", "-", "\x00"} {
			if got, used, e := Whole(told + behind); got != n || used != len(told) || e != api.OK {
				t.Errorf("Whole(%q): %d, %d, %d", told+behind, got, used, e)
			}
		}
	}
}

// P1.4: a text's Hex is a name, and a part of names.
func TestHexInNames(t *testing.T) {
	for _, s := range texts() {
		h := Hex(s)
		for _, name := range []string{h, "v" + h, "_" + h, h + "_" + h, h + "9"} {
			if !IsName(name) {
				t.Errorf("IsName(%q): no", name)
			}
		}
	}
}

// P1.1, P1.4: no two texts have the same Hex.
func TestHexTellsApart(t *testing.T) {
	from := map[string]string{}
	for _, s := range texts() {
		h := Hex(s)
		if other, there := from[h]; there && other != s {
			t.Errorf("%q and %q: %s", s, other, h)
		}
		from[h] = s
	}
}
