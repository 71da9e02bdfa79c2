package dec

import (
	"fmt"
	"math"
	"math/big"
	"strings"
	"testing"

	"dragoman/api"
)

const (
	most  = math.MaxInt64
	least = math.MinInt64
)

// row is a row of numbers that look stray, but are the same in each run.
func row(seed uint64) func() uint64 {
	return func() uint64 {
		seed = seed*6364136223846793005 + 1442695040888963407
		x := seed ^ seed>>29
		return x ^ x<<17
	}
}

// numbers are ordinary numbers, edges and their neighbours, and some that look stray.
func numbers() []int64 {
	l := []int64{0, 1, -1, 3, -3, 7, -7, 333333, -333333, 500000, 1500000, -1500000, 2500000, -7000000, math.MaxInt32, math.MinInt32, 1 << 62, -1 << 62, most, most - 1, least, least + 1, 3037000499976, 3037000499977, -3037000499976, -3037000499977}
	for p := int64(1); p < 1000000000000000000; p *= 10 {
		l = append(l, p-1, p, p+1, -p-1, -p, -p+1)
	}
	next := row(3)
	for i := range 60 {
		l = append(l, int64(next())>>i)
	}
	return l
}

// fits is a whole number as an int64, or that it is none.
func fits(n *big.Int) (int64, api.Errno) {
	if !n.IsInt64() {
		return 0, api.ErrOver
	}
	return n.Int64(), api.OK
}

func wide64(n int64) *big.Int { return big.NewInt(n) }

var oneMillion = wide64(1000000)

// reckonings are the calls of two numbers, and what each must answer, in whole numbers of any size.
func reckonings() map[string]struct {
	do, want func(a, b api.Dec) (api.Dec, api.Errno)
} {
	type call = func(a, b api.Dec) (api.Dec, api.Errno)
	type pair = struct{ do, want call }
	return map[string]pair{
		"Add": {Add, func(a, b api.Dec) (api.Dec, api.Errno) { return fits(new(big.Int).Add(wide64(a), wide64(b))) }},
		"Sub": {Sub, func(a, b api.Dec) (api.Dec, api.Errno) { return fits(new(big.Int).Sub(wide64(a), wide64(b))) }},
		"Mul": {Mul, func(a, b api.Dec) (api.Dec, api.Errno) {
			n := new(big.Int).Mul(wide64(a), wide64(b))
			return fits(n.Quo(n, oneMillion))
		}},
		"Div": {Div, func(a, b api.Dec) (api.Dec, api.Errno) {
			if b == 0 {
				return 0, api.ErrZero
			}
			n := new(big.Int).Mul(wide64(a), oneMillion)
			return fits(n.Quo(n, wide64(b)))
		}},
		"Mod": {Mod, func(a, b api.Dec) (api.Dec, api.Errno) {
			if b == 0 {
				return 0, api.ErrZero
			}
			return fits(new(big.Int).Rem(wide64(a), wide64(b)))
		}},
	}
}

// P2.1: the longest beginning that is a numeral, its number, how many bytes.
func TestRead(t *testing.T) {
	for _, x := range []struct {
		s    string
		n    api.Dec
		used int
		e    api.Errno
	}{
		// Ordinary ones.
		{"0", 0, 1, api.OK},
		{"12", 12000000, 2, api.OK},
		{"-1.50x", -1500000, 5, api.OK},
		{"+1.5", 1500000, 4, api.OK},
		{"1.2.3", 1200000, 3, api.OK},
		{"7 8", 7000000, 1, api.OK},
		{"1e5", 1000000, 1, api.OK},
		{"0x10", 0, 1, api.OK},
		{"1,5", 1000000, 1, api.OK},
		{"-0", 0, 2, api.OK},
		{"-0.0", 0, 4, api.OK},
		{"4-3", 4000000, 1, api.OK},
		// A point without figures ahead, or behind.
		{".5", 500000, 2, api.OK},
		{"-.5", -500000, 3, api.OK},
		{"+.5", 500000, 3, api.OK},
		{"3.", 3000000, 2, api.OK},
		{"-3.", -3000000, 3, api.OK},
		{"3..5", 3000000, 2, api.OK},
		{"3.-5", 3000000, 2, api.OK},
		{"3. 5", 3000000, 2, api.OK},
		{".5.", 500000, 2, api.OK},
		// The sixth figure, the seventh, and more.
		{"1.000001", 1000001, 8, api.OK},
		{"1.0000009", 1000000, 9, api.OK},
		{"1.9999999", 1999999, 9, api.OK},
		{"-1.9999999", -1999999, 10, api.OK},
		{"-0.0000001", 0, 10, api.OK},
		{"+1.2345678", 1234567, 10, api.OK},
		{".123456789012345678901234567890x", 123456, 31, api.OK},
		{"1." + strings.Repeat("9", 5000), 1999999, 5002, api.OK},
		// Noughts ahead.
		{"007", 7000000, 3, api.OK},
		{"-00.10", -100000, 6, api.OK},
		{strings.Repeat("0", 5000) + "12.5", 12500000, 5004, api.OK},
		// Spaces and tabs ahead, and nothing else.
		{" 1", 1000000, 2, api.OK},
		{"\t1", 1000000, 2, api.OK},
		{" \t \t-.5z", -500000, 7, api.OK},
		{"1 ", 1000000, 1, api.OK},
		{"\n1", 0, 0, api.ErrForm},
		{"\r1", 0, 0, api.ErrForm},
		{"\v1", 0, 0, api.ErrForm},
		{"\f1", 0, 0, api.ErrForm},
		{"\x001", 0, 0, api.ErrForm},
		{"\u00a01", 0, 0, api.ErrForm},
		{"- 1", 0, 0, api.ErrForm},
		{". 1", 0, 0, api.ErrForm},
		// No numeral.
		{"", 0, 0, api.ErrForm},
		{" ", 0, 0, api.ErrForm},
		{" \t", 0, 0, api.ErrForm},
		{"-", 0, 0, api.ErrForm},
		{"+", 0, 0, api.ErrForm},
		{" -", 0, 0, api.ErrForm},
		{".", 0, 0, api.ErrForm},
		{"-.", 0, 0, api.ErrForm},
		{"+.", 0, 0, api.ErrForm},
		{"..1", 0, 0, api.ErrForm},
		{"--1", 0, 0, api.ErrForm},
		{"+-1", 0, 0, api.ErrForm},
		{"-+1", 0, 0, api.ErrForm},
		{"x1", 0, 0, api.ErrForm},
		{"e1", 0, 0, api.ErrForm},
		{"nan", 0, 0, api.ErrForm},
		{"inf", 0, 0, api.ErrForm},
		{"\xd9\xa1", 0, 0, api.ErrForm},
		{"\xff", 0, 0, api.ErrForm},
		// Next to the bounds.
		{"9223372036854.775807", most, 20, api.OK},
		{"9223372036854.775806", most - 1, 20, api.OK},
		{"9223372036854.7758079", most, 21, api.OK},
		{"+9223372036854.775807", most, 21, api.OK},
		{"009223372036854.775807", most, 22, api.OK},
		{"9223372036854", 9223372036854000000, 13, api.OK},
		{"9223372036854.", 9223372036854000000, 14, api.OK},
		{"9223372036854.775808", 0, 0, api.ErrOver},
		{"9223372036854.8", 0, 0, api.ErrOver},
		{"+9223372036854.775808", 0, 0, api.ErrOver},
		{"9223372036855", 0, 0, api.ErrOver},
		{"-9223372036854.775807", least + 1, 21, api.OK},
		{"-9223372036854.775808", least, 21, api.OK},
		{"-9223372036854.7758089", least, 22, api.OK},
		{"\t-9223372036854.775808 ", least, 22, api.OK},
		{"-9223372036854.775809", 0, 0, api.ErrOver},
		{"-9223372036854.77581", 0, 0, api.ErrOver},
		{"-9223372036855", 0, 0, api.ErrOver},
		{"9223372036854775807", 0, 0, api.ErrOver},
		{"9223372036854775808", 0, 0, api.ErrOver},
		{"-9223372036854775808", 0, 0, api.ErrOver},
		{"18446744073709551616", 0, 0, api.ErrOver},
		{"18446744073709.551616", 0, 0, api.ErrOver},
		{"18446744073710", 0, 0, api.ErrOver},
		{"99999999999999999999", 0, 0, api.ErrOver},
		{strings.Repeat("9", 5000) + ".x", 0, 0, api.ErrOver},
	} {
		n, used, e := Read(x.s)
		if n != x.n || used != x.used || e != x.e {
			t.Errorf("Read(%.40q): %d %d %d, not %d %d %d", x.s, n, used, e, x.n, x.used, x.e)
		}
	}
}

// slow is what Read must answer, found by going through all beginnings.
func slow(s string) (api.Dec, int, api.Errno) {
	ahead := 0
	for ahead < len(s) && (s[ahead] == ' ' || s[ahead] == '\t') {
		ahead++
	}
	for end := len(s); end > ahead; end-- {
		if isNumeral(s[ahead:end]) {
			n, e := numeralNumber(s[ahead:end])
			if e != api.OK {
				end = 0
			}
			return n, end, e
		}
	}
	return 0, 0, api.ErrForm
}

func isNumeral(s string) bool {
	if s != "" && (s[0] == '+' || s[0] == '-') {
		s = s[1:]
	}
	whole, rest, _ := strings.Cut(s, ".")
	return whole+rest != "" && strings.Trim(whole+rest, "0123456789") == ""
}

func numeralNumber(s string) (api.Dec, api.Errno) {
	f, ok := new(big.Rat).SetString(strings.TrimSuffix(s, "."))
	if !ok {
		panic(s)
	}
	f.Mul(f, new(big.Rat).SetInt(oneMillion))
	return fits(new(big.Int).Quo(f.Num(), f.Denom()))
}

// P2.1: short texts of the bytes that numerals are made of, and some others.
func TestReadAll(t *testing.T) {
	const of = " \t+-.019x"
	texts := []string{""}
	for at := 0; len(texts[at]) < 5; at++ {
		for i := range len(of) {
			texts = append(texts, texts[at]+of[i:i+1])
		}
	}
	for _, s := range texts {
		n, used, e := Read(s)
		wantN, wantUsed, wantE := slow(s)
		if n != wantN || used != wantUsed || e != wantE {
			t.Fatalf("Read(%q): %d %d %d, not %d %d %d", s, n, used, e, wantN, wantUsed, wantE)
		}
	}
}

// P2.1: no byte but the figures begins a numeral alone, and none but these goes on with one.
func TestReadBytes(t *testing.T) {
	for c := range 256 {
		b := string([]byte{byte(c)})
		figure := '0' <= c && c <= '9'
		if _, used, e := Read(b); (e == api.OK) != figure || figure && used != 1 {
			t.Errorf("Read(%q): %d %d", b, used, e)
		}
		want := 1
		if figure || c == '.' {
			want = 2
		}
		if _, used, e := Read("1" + b); used != want || e != api.OK {
			t.Errorf("Read(%q): %d %d", "1"+b, used, e)
		}
		ahead := b == " " || b == "\t" || b == "+" || b == "-" || b == "." || figure
		if _, used, e := Read(b + "1"); (e == api.OK) != ahead || ahead && used != 2 {
			t.Errorf("Read(%q): %d %d", b+"1", used, e)
		}
	}
}

// P2.1: a number's text, without needless figures.
func TestText(t *testing.T) {
	for n, want := range map[api.Dec]string{
		0:                   "0",
		1:                   "0.000001",
		-1:                  "-0.000001",
		10:                  "0.00001",
		123456:              "0.123456",
		100000:              "0.1",
		-100000:             "-0.1",
		999999:              "0.999999",
		1000000:             "1",
		-1000000:            "-1",
		1000001:             "1.000001",
		1500000:             "1.5",
		-1500000:            "-1.5",
		-2000000:            "-2",
		10000000:            "10",
		100000000:           "100",
		100100000:           "100.1",
		-10010010:           "-10.01001",
		9223372036854000000: "9223372036854",
		most:                "9223372036854.775807",
		most - 1:            "9223372036854.775806",
		least:               "-9223372036854.775808",
		least + 1:           "-9223372036854.775807",
	} {
		if got := Text(n); got != want {
			t.Errorf("Text(%d): %q, not %q", n, got, want)
		}
	}
	for _, n := range numbers() {
		want := new(big.Rat).SetFrac(wide64(n), oneMillion).FloatString(6)
		want = strings.TrimSuffix(strings.TrimRight(want, "0"), ".")
		if got := Text(n); got != want {
			t.Errorf("Text(%d): %q, not %q", n, got, want)
		}
	}
}

// P2.2: sums, differences, products, quotients and rests, and where they are none.
func TestReckon(t *testing.T) {
	for _, x := range []struct {
		name string
		a, b api.Dec
		n    api.Dec
		e    api.Errno
	}{
		{"Add", 1, 2, 3, api.OK},
		{"Add", 1500000, -2500000, -1000000, api.OK},
		{"Add", most, 0, most, api.OK},
		{"Add", most, 1, 0, api.ErrOver},
		{"Add", most, most, 0, api.ErrOver},
		{"Add", most, least, -1, api.OK},
		{"Add", least, 0, least, api.OK},
		{"Add", least, -1, 0, api.ErrOver},
		{"Add", least, least, 0, api.ErrOver},
		{"Add", 1 << 62, 1 << 62, 0, api.ErrOver},
		{"Add", 1 << 62, 1<<62 - 1, most, api.OK},
		{"Add", -1 << 62, -1 << 62, least, api.OK},
		{"Sub", 1, 2, -1, api.OK},
		{"Sub", least, 1, 0, api.ErrOver},
		{"Sub", least, -1, least + 1, api.OK},
		{"Sub", 0, least, 0, api.ErrOver},
		{"Sub", -1, least, most, api.OK},
		{"Sub", least, least, 0, api.OK},
		{"Sub", most, -1, 0, api.ErrOver},
		{"Sub", most, least, 0, api.ErrOver},
		{"Mul", 1500000, -2000000, -3000000, api.OK},
		{"Mul", -1500000, -2000000, 3000000, api.OK},
		{"Mul", 0, least, 0, api.OK},
		{"Mul", 1, 1, 0, api.OK},
		{"Mul", -1, 1, 0, api.OK},
		{"Mul", 1, 999999, 0, api.OK},
		{"Mul", 1, 1000000, 1, api.OK},
		{"Mul", -3, 500000, -1, api.OK},
		{"Mul", most, 1000000, most, api.OK},
		{"Mul", most, -1000000, least + 1, api.OK},
		{"Mul", least, 1000000, least, api.OK},
		{"Mul", least, -1000000, 0, api.ErrOver},
		{"Mul", most, 1000001, 0, api.ErrOver},
		{"Mul", least, 1000001, 0, api.ErrOver},
		{"Mul", 1 << 62, 2000000, 0, api.ErrOver},
		{"Mul", 1 << 62, -2000000, least, api.OK},
		{"Mul", 1<<62 - 1, 2000000, most - 1, api.OK},
		{"Mul", 3037000499976, 3037000499976, 9223372036854473976, api.OK},
		{"Mul", 3037000499976, 3037000499977, 0, api.ErrOver},
		{"Mul", least, least, 0, api.ErrOver},
		{"Mul", most, most, 0, api.ErrOver},
		{"Mul", least, most, 0, api.ErrOver},
		{"Div", 1000000, 3000000, 333333, api.OK},
		{"Div", -1000000, 3000000, -333333, api.OK},
		{"Div", 1000000, -3000000, -333333, api.OK},
		{"Div", -2000000, -3000000, 666666, api.OK},
		{"Div", 0, least, 0, api.OK},
		{"Div", 1, 0, 0, api.ErrZero},
		{"Div", 0, 0, 0, api.ErrZero},
		{"Div", least, 0, 0, api.ErrZero},
		{"Div", most, 1000000, most, api.OK},
		{"Div", most, -1000000, least + 1, api.OK},
		{"Div", least, 1000000, least, api.OK},
		{"Div", least, -1000000, 0, api.ErrOver},
		{"Div", least, -1000001, 9223362813491962316, api.OK},
		{"Div", most, 999999, 0, api.ErrOver},
		{"Div", least, 1, 0, api.ErrOver},
		{"Div", 9223372036854, 1, 9223372036854000000, api.OK},
		{"Div", 9223372036855, 1, 0, api.ErrOver},
		{"Div", -9223372036854, 1, -9223372036854000000, api.OK},
		{"Div", -9223372036855, 1, 0, api.ErrOver},
		{"Div", 1, least, 0, api.OK},
		{"Div", least, least, 1000000, api.OK},
		{"Div", least, most, -1000000, api.OK},
		{"Mod", 7500000, 2000000, 1500000, api.OK},
		{"Mod", 7000000, -2000000, 1000000, api.OK},
		{"Mod", -7000000, 2000000, -1000000, api.OK},
		{"Mod", -7000000, -2000000, -1000000, api.OK},
		{"Mod", 1, 1000000, 1, api.OK},
		{"Mod", 500000, 200000, 100000, api.OK},
		{"Mod", 6000000, 2000000, 0, api.OK},
		{"Mod", least, -1, 0, api.OK},
		{"Mod", least, 1, 0, api.OK},
		{"Mod", least, -1000000, -775808, api.OK},
		{"Mod", most, least, most, api.OK},
		{"Mod", least, most, -1, api.OK},
		{"Mod", 1, 0, 0, api.ErrZero},
		{"Mod", 0, 0, 0, api.ErrZero},
	} {
		if n, e := reckonings()[x.name].do(x.a, x.b); n != x.n || e != x.e {
			t.Errorf("%s(%d, %d): %d %d, not %d %d", x.name, x.a, x.b, n, e, x.n, x.e)
		}
	}
}

// P2.2: each pair of numbers, held against whole numbers of any size.
func TestReckonAll(t *testing.T) {
	for name, x := range reckonings() {
		for _, a := range numbers() {
			for _, b := range numbers() {
				n, e := x.do(a, b)
				if want, wantE := x.want(a, b); n != want || e != wantE {
					t.Fatalf("%s(%d, %d): %d %d, not %d %d", name, a, b, n, e, want, wantE)
				}
			}
		}
	}
}

// P2.2: products and quotients that just fit, and just don't.
func TestReckonNext(t *testing.T) {
	calls := reckonings()
	for _, b := range numbers() {
		if b == 0 {
			continue
		}
		for _, bound := range []int64{most, least} {
			// The a whose product, or quotient, is next to the bound.
			byMul := new(big.Int).Mul(wide64(bound), oneMillion)
			byDiv := new(big.Int).Mul(wide64(bound), wide64(b))
			for name, near := range map[string]*big.Int{"Mul": byMul.Quo(byMul, wide64(b)), "Div": byDiv.Quo(byDiv, oneMillion)} {
				for off := int64(-2); off <= 2; off++ {
					a, e := fits(new(big.Int).Add(near, wide64(off)))
					if e != api.OK {
						continue
					}
					n, e := calls[name].do(a, b)
					if want, wantE := calls[name].want(a, b); n != want || e != wantE {
						t.Fatalf("%s(%d, %d): %d %d, not %d %d", name, a, b, n, e, want, wantE)
					}
				}
			}
		}
	}
}

// P2.2: the whole part, towards 0.
func TestTrunc(t *testing.T) {
	for a, want := range map[api.Dec]int64{
		0: 0, 1: 0, -1: 0, 999999: 0, -999999: 0, 1000000: 1, -1000000: -1, 1999999: 1, -2999999: -2, -3000000: -3,
		most: 9223372036854, least: -9223372036854,
	} {
		if got := Trunc(a); got != want {
			t.Errorf("Trunc(%d): %d, not %d", a, got, want)
		}
	}
	for _, a := range numbers() {
		if got, want := Trunc(a), new(big.Int).Quo(wide64(a), oneMillion).Int64(); got != want {
			t.Errorf("Trunc(%d): %d, not %d", a, got, want)
		}
	}
}

// P2.2: whole numbers, and those that are too great.
func TestWhole(t *testing.T) {
	for _, x := range []struct {
		n    int64
		want api.Dec
		e    api.Errno
	}{
		{0, 0, api.OK},
		{1, 1000000, api.OK},
		{-3, -3000000, api.OK},
		{9223372036853, 9223372036853000000, api.OK},
		{9223372036854, 9223372036854000000, api.OK},
		{9223372036855, 0, api.ErrOver},
		{-9223372036853, -9223372036853000000, api.OK},
		{-9223372036854, -9223372036854000000, api.OK},
		{-9223372036855, 0, api.ErrOver},
		{18446744073709, 0, api.ErrOver},
		{18446744073710, 0, api.ErrOver},
		{-18446744073710, 0, api.ErrOver},
		{most, 0, api.ErrOver},
		{least, 0, api.ErrOver},
	} {
		if got, e := Whole(x.n); got != x.want || e != x.e {
			t.Errorf("Whole(%d): %d %d, not %d %d", x.n, got, e, x.want, x.e)
		}
	}
	for _, n := range numbers() {
		got, e := Whole(n)
		if want, wantE := fits(new(big.Int).Mul(wide64(n), oneMillion)); got != want || e != wantE {
			t.Errorf("Whole(%d): %d %d, not %d %d", n, got, e, want, wantE)
		}
	}
}

// P2.3: floats' edges.
func TestFloat(t *testing.T) {
	below0 := math.Copysign(0, -1)
	for _, x := range []struct {
		f    float64
		want api.Dec
		e    api.Errno
	}{
		{0, 0, api.OK},
		{below0, 0, api.OK},
		{1, 1000000, api.OK},
		{1.5, 1500000, api.OK},
		{-0.25, -250000, api.OK},
		{1.0 / 3, 333333, api.OK},
		{-1.0 / 3, -333333, api.OK},
		// The float next to 0.1 is greater than it, that next to 0.3 is less.
		{0.1, 100000, api.OK},
		{0.3, 299999, api.OK},
		{-0.3, -299999, api.OK},
		// A product of floats would round this one up.
		{math.Nextafter(2, 0), 1999999, api.OK},
		{math.Nextafter(0.5, 0), 499999, api.OK},
		{math.Nextafter(-0.5, 0), -499999, api.OK},
		{0.000001, 0, api.OK},
		{math.Nextafter(0.000001, 1), 1, api.OK},
		{0.0000011, 1, api.OK},
		{-0.0000011, -1, api.OK},
		{0.0009765625, 976, api.OK},
		{0.00048828125, 488, api.OK},
		{0.000244140625, 244, api.OK},
		{0.0001220703125, 122, api.OK},
		{5e-324, 0, api.OK},
		{-5e-324, 0, api.OK},
		{math.Nextafter(1, 2), 1000000, api.OK},
		{math.NaN(), 0, api.ErrNaN},
		{math.Copysign(math.NaN(), -1), 0, api.ErrNaN},
		{math.Inf(1), 0, api.ErrOver},
		{math.Inf(-1), 0, api.ErrOver},
		{math.MaxFloat64, 0, api.ErrOver},
		{-math.MaxFloat64, 0, api.ErrOver},
		{9e12, 9000000000000000000, api.OK},
		{-9e12, -9000000000000000000, api.OK},
		{1e13, 0, api.ErrOver},
		{9223372036854, 9223372036854000000, api.OK},
		{9223372036854.7734375, 9223372036854773437, api.OK},
		{9223372036854.775390625, 9223372036854775390, api.OK},
		{9223372036854.77734375, 0, api.ErrOver},
		{9223372036855, 0, api.ErrOver},
		{-9223372036854.775390625, -9223372036854775390, api.OK},
		{-9223372036854.77734375, 0, api.ErrOver},
		{-9223372036855, 0, api.ErrOver},
		{1 << 43, 8796093022208000000, api.OK},
		{1 << 44, 0, api.ErrOver},
		{-1 << 44, 0, api.ErrOver},
		{18446744073709.551616, 0, api.ErrOver},
		{1 << 63, 0, api.ErrOver},
		{1 << 64, 0, api.ErrOver},
	} {
		if got, e := Float(x.f); got != x.want || e != x.e {
			t.Errorf("Float(%v): %d %d, not %d %d", x.f, got, e, x.want, x.e)
		}
	}
}

// floatNumber is what Float must answer to a float that is a number and not infinite.
func floatNumber(f float64) (api.Dec, api.Errno) {
	r := new(big.Rat).SetFloat64(f)
	r.Mul(r, new(big.Rat).SetInt(oneMillion))
	return fits(new(big.Int).Quo(r.Num(), r.Denom()))
}

// P2.3: floats of every size, and those next to numbers' edges, exactly.
func TestFloatAll(t *testing.T) {
	var l []float64
	next := row(4)
	for power := -1074; power <= 1023; power++ {
		f := math.Ldexp(1, power)
		stray := math.Ldexp(float64(next()>>11|1<<52), power-52)
		l = append(l, f, stray, math.Nextafter(f, 0), math.Nextafter(f, math.Inf(1)))
	}
	for _, n := range numbers() {
		f := float64(n) / 1000000
		l = append(l, f, math.Nextafter(f, math.Inf(1)), math.Nextafter(f, math.Inf(-1)))
	}
	for _, f := range l {
		if math.IsInf(f, 0) {
			continue
		}
		for _, f := range []float64{f, -f} {
			got, e := Float(f)
			if want, wantE := floatNumber(f); got != want || e != wantE {
				t.Fatalf("Float(%v): %d %d, not %d %d", f, got, e, want, wantE)
			}
		}
	}
}

// P2.4: a number's text is read as it, whole.
func TestTextIsRead(t *testing.T) {
	for _, n := range numbers() {
		s := Text(n)
		if got, used, e := Read(s); got != n || used != len(s) || e != api.OK {
			t.Errorf("Read(Text(%d)): %d %d %d", n, got, used, e)
		}
		if got, used, e := Read(" \t" + s + "x"); got != n || used != len(s)+2 || e != api.OK {
			t.Errorf("Read of spaces, Text(%d) and x: %d %d %d", n, got, used, e)
		}
	}
}

// P2.4: sums and products hang on no order; what is divided is the quotient times the divisor, but for a rest.
func TestOrderAndRest(t *testing.T) {
	for _, a := range numbers() {
		for _, b := range numbers() {
			for name, do := range map[string]func(a, b api.Dec) (api.Dec, api.Errno){"Add": Add, "Mul": Mul} {
				if told, back := fmt.Sprint(do(a, b)), fmt.Sprint(do(b, a)); told != back {
					t.Fatalf("%s of %d and %d: %s and %s", name, a, b, told, back)
				}
			}
			if q, e := Div(a, b); e == api.OK {
				// The quotient times the divisor is off by less than the divisor, in millionths.
				off := new(big.Int).Mul(wide64(a), oneMillion)
				off.Sub(off, new(big.Int).Mul(wide64(q), wide64(b)))
				if off.CmpAbs(wide64(b)) >= 0 || off.Sign()*wide64(a).Sign() < 0 {
					t.Fatalf("Div(%d, %d): %d", a, b, q)
				}
			}
			if m, e := Mod(a, b); e == api.OK {
				off := new(big.Int).Sub(wide64(a), wide64(m))
				if off.Rem(off, wide64(b)).Sign() != 0 || wide64(m).CmpAbs(wide64(b)) >= 0 || m != 0 && (m < 0) != (a < 0) {
					t.Fatalf("Mod(%d, %d): %d", a, b, m)
				}
			}
		}
	}
}
