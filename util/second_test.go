package util

import (
	"math/big"
	"regexp"
	"slices"
	"strconv"
	"strings"
	"testing"

	"dragoman/api"
	"dragoman/hex"
	"dragoman/value"
)

// forms are the table's, but sed's, and those of any words; a capital letter stands for another word.
var forms = []string{"hex A", "unhex A", "dec + A B", "dec - A B", "dec * A B", "dec / A B", "dec % A B", "dec cmp A B", "dec low A", "dec true A", "str len A", "str index A B", "str sub A M N", "str up A", "str low A", "str count A", "str field N A", "test A = B", "test A != B", "test -n A", "test -z A", "test A -eq B", "test A -ne B", "test A -lt B", "test A -le B", "test A -gt B", "test A -ge B"}

// free: does it stand for another word?
func free(word string) bool { return len(word) == 1 && 'A' <= word[0] && word[0] <= 'Z' }

// meant are the form that words are of, and the words that its letters stand for.
func meant(words []string) (string, map[string]string, int) {
	var form string
	var stands map[string]string
	many := 0
	for _, f := range forms {
		l := strings.Split(f, " ")
		if len(l) != len(words) {
			continue
		}
		others, fits := map[string]string{}, true
		for i, w := range l {
			if free(w) {
				others[w] = words[i]
			} else {
				fits = fits && w == words[i]
			}
		}
		if fits {
			form, stands, many = f, others, many+1
		}
	}
	return form, stands, many
}

var (
	numeral = regexp.MustCompile(`\A[ \t]*([+-]?(?:[0-9]+\.?[0-9]*|\.[0-9]+))`)
	figures = regexp.MustCompile(`\A-?[0-9]+\z`)
)

// wantPart is a word's part, and whether it has one: in numbers of any size.
func wantPart(word string) (int64, bool) {
	m := numeral.FindStringSubmatch(word)
	if m == nil {
		return 0, true
	}
	n, _ := new(big.Rat).SetString(strings.TrimSuffix(m[1], "."))
	million := new(big.Rat).Mul(n, big.NewRat(1000000, 1))
	if !new(big.Int).Quo(million.Num(), million.Denom()).IsInt64() {
		return 0, false
	}
	return new(big.Int).Quo(n.Num(), n.Denom()).Int64(), true
}

// wantWhole is a word's whole number, nil if it is none.
func wantWhole(word string) *big.Int {
	if !figures.MatchString(word) {
		return nil
	}
	n, _ := new(big.Int).SetString(word, 10)
	if !n.IsInt64() {
		return nil
	}
	return n
}

// letters are a text's, turned by two rows.
func letters(s, from, to string) string {
	b := []byte(s)
	for i, c := range b {
		if at := strings.IndexByte(from, c); at >= 0 {
			b[i] = to[at]
		}
	}
	return string(b)
}

// fell is what goes wrong; so is what is so, or isn't.
const fell = 2

func so(is bool) (string, int) {
	if is {
		return "", 0
	}
	return "", 1
}

func put(s string) (string, int) { return s + "\n", 0 }

// wantRun is what words put out, and how they go: a second telling of the table.
func wantRun(words []string) (string, int) {
	form, stands, _ := meant(words)
	a, b := stands["A"], stands["B"]
	switch l := strings.Split(form, " "); l[0] {
	case "hex":
		return put(hex.Hex(a))
	case "unhex":
		s, e := hex.Unhex(a)
		if e != api.OK {
			return "", fell
		}
		return put(s)
	case "dec":
		return wantDec(l[1], a, b)
	case "str":
		return wantStr(l[1], stands)
	case "test":
		if slices.Contains([]string{"=", "!="}, l[2]) {
			return so((a == b) == (l[2] == "="))
		}
		if l[2] == "A" {
			return so((a == "") == (l[1] == "-z"))
		}
		return wantHeld(l[2], a, b)
	}
	return "", fell
}

func wantDec(op, a, b string) (string, int) {
	switch op {
	case "cmp":
		return put(strconv.Itoa(value.Compare(a, b)))
	case "true":
		return so(value.Truth(a))
	case "low":
		n, e := value.Low(a)
		if e != api.OK {
			return "", fell
		}
		return put(strconv.Itoa(n))
	}
	s, e := value.Reckon(op[0], a, b)
	if e != api.OK {
		return "", fell
	}
	return put(s)
}

func wantStr(op string, stands map[string]string) (string, int) {
	const small, great = "abcdefghijklmnopqrstuvwxyz", "ABCDEFGHIJKLMNOPQRSTUVWXYZ"
	a, b := stands["A"], stands["B"]
	m, isM := wantPart(stands["M"])
	n, isN := wantPart(stands["N"])
	switch op {
	case "len":
		return put(strconv.Itoa(len([]byte(a))))
	case "index":
		return put(strconv.Itoa(wantIndex(a, b)))
	case "up":
		return put(letters(a, small, great))
	case "low":
		return put(letters(a, great, small))
	case "count":
		return put(strconv.Itoa(len(wantFields(a))))
	case "sub":
		if isM && isN {
			return put(wantSub(a, m, n))
		}
	case "field":
		l := append([]string{a}, wantFields(a)...)
		if isN && n >= 0 && n < int64(len(l)) {
			return put(l[n])
		}
		if isN && n >= 0 {
			return put("")
		}
	}
	return "", fell
}

func wantHeld(op, a, b string) (string, int) {
	x, y := wantWhole(a), wantWhole(b)
	if x == nil || y == nil {
		return "", fell
	}
	order := x.Cmp(y)
	return so(map[string]bool{"-eq": order == 0, "-ne": order != 0, "-lt": order == -1, "-le": order != 1, "-gt": order == 1, "-ge": order != -1}[op])
}

// pool are words that others are taken from.
var pool = []string{"", " ", "\t", "a", "b", "ab", "aZ", "Az1", "banana", "an", "x41", "x", "x4", "x0aff", "xAB", " a b  c ", "a\tb", "a\nb", "\xff\x00", "é", "0", "1", "2", "3", "-1", "-2", "-0", "007", "1.5", "-0.5", "2.9", ".5", "1.", "1x", " 2", "2 ", "+1", "255", "256", "257", "9", "10", "9a", "0.0", "9223372036854775807", "-9223372036854775808", "9223372036854775808", "9223372036854.775807", "-9223372036854.775808", "9223372036854.775808", "9999999999999", "-9999999999999", "9000000000000", "4294967297", "=", "!=", "-n", "-z", "-eq", "-ne", "-lt", "-le", "-gt", "-ge", "+", "-", "*", "/", "%", "cmp", "low", "true", "len", "index", "sub", "up", "count", "field", "dec", "str", "test", "hex", "unhex"}

// strayWords are a form's, with stray ones for its letters, as they are, or with one taken away, added, or changed.
func strayWords(next func(int) int) []string {
	words := strings.Split(forms[next(len(forms))], " ")
	few := pool[next(len(pool)):]
	if next(2) == 0 {
		few = pool[20:32]
	}
	for i, w := range words {
		if free(w) {
			words[i] = few[next(len(few))]
		}
	}
	at := 1 + next(len(words)-1)
	switch next(12) {
	case 0:
		words = slices.Delete(words, at, at+1)
	case 1:
		words = slices.Insert(words, at, pool[next(len(pool))])
	case 2:
		words[at] = pool[next(len(pool))]
	case 3:
		words[at], words[len(words)-1] = words[len(words)-1], words[at]
	case 4:
		words = append(words, pool[next(len(pool))])
	}
	return words
}

// P13.2: stray words are as the table tells them, and are of one form at most.
func TestStraySecond(t *testing.T) {
	next := row(131)
	counts := map[int]int{}
	for range 200000 {
		words := strayWords(next)
		if _, _, many := meant(words); many > 1 {
			t.Fatalf("%q are of %d forms", words, many)
		}
		out, status := wantRun(words)
		if got, want := ask(words, "in\n", 9), (answer{out, status, 9, api.OK}); got != want {
			t.Fatalf("Run(%q): %+v, not %+v", words, got, want)
		}
		counts[status]++
	}
	if counts[0] < 50000 || counts[1] < 10000 || counts[2] < 50000 {
		t.Errorf("how they went: %v", counts)
	}
}

// P13.2: all words of the pool behind each form's own ones.
func TestEachSecond(t *testing.T) {
	for _, form := range forms {
		words := strings.Split(form, " ")
		first := slices.IndexFunc(words, free)
		for _, a := range pool {
			for _, b := range pool {
				l := slices.Clone(words)
				for i, w := range l {
					if free(w) && i == first {
						l[i] = a
					} else if free(w) {
						l[i] = b
					}
				}
				out, status := wantRun(l)
				if got, want := ask(l, "", 0), (answer{out, status, 0, api.OK}); got != want {
					t.Fatalf("Run(%q): %+v, not %+v", l, got, want)
				}
			}
		}
	}
}
