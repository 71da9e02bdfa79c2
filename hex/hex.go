// Package hex is layer 1: see shared/doc/01-hex.md.
package hex

import (
	"math"
	"strconv"

	"dragoman/api"
)

// lead stands ahead of a text's digits: with a letter at its beginning it is a name.
const lead = 'x'

// digits are the sixteen, each at its number's place.
const digits = "0123456789abcdef"

// Hex is a text in digits.
func Hex(s string) string {
	out := make([]byte, 1, 1+2*len(s))
	out[0] = lead
	for i := range len(s) {
		out = append(out, digits[s[i]>>4], digits[s[i]&15])
	}
	return string(out)
}

// Unhex is the text of digits.
func Unhex(s string) (string, api.Errno) {
	if len(s)%2 == 0 || s[0] != lead {
		return "", api.ErrForm
	}
	out := make([]byte, len(s)/2)
	for i := range len(out) {
		high, low := told(s[2*i+1]), told(s[2*i+2])
		if high < 0 || low < 0 {
			return "", api.ErrForm
		}
		out[i] = byte(high<<4 | low)
	}
	return string(out), api.OK
}

// told is the number of a digit that Hex tells: it never tells a capital one.
func told(c byte) int {
	if 'A' <= c && c <= 'F' {
		return -1
	}
	return Digit(c)
}

// Digit is a digit's number.
func Digit(c byte) int {
	switch {
	case isFigure(c):
		return int(c - '0')
	case 'a' <= c && c <= 'f':
		return int(c-'a') + 10
	case 'A' <= c && c <= 'F':
		return int(c-'A') + 10
	}
	return -1
}

// Figures are a number's.
func Figures(n int64) string {
	return strconv.FormatInt(n, 10)
}

// Whole is a number at the beginning of a text.
func Whole(s string) (int64, int, api.Errno) {
	// There is one number more below 0 than above it.
	ahead, most := 0, uint64(math.MaxInt64)
	var many int
	switch {
	case s != "" && s[0] == '-':
		ahead, most = 1, most+1
		fallthrough
	default:
		many = count(s[ahead:])
	}
	if many == 0 {
		return 0, 0, api.ErrForm
	}
	used := ahead + many
	n, fits := size(s[ahead:used], most)
	if !fits {
		return 0, 0, api.ErrOver
	}
	if ahead > 0 {
		n = -n
	}
	return int64(n), used, api.OK
}

// count is how many figures a text begins with.
func count(s string) int {
	for i := range len(s) {
		if !isFigure(s[i]) {
			return i
		}
	}
	return len(s)
}

// size is the number that figures tell, and whether it is at most the given one.
func size(figures string, most uint64) (uint64, bool) {
	var n uint64
	for i := range len(figures) {
		d := uint64(figures[i] - '0')
		// Asked ahead of reckoning, which could go round.
		if n > (most-d)/10 {
			return 0, false
		}
		n = 10*n + d
	}
	return n, true
}

// IsName: is it a name?
func IsName(s string) bool {
	fits := func(at int) bool {
		return isLetter(s[at]) || at > 0 && isFigure(s[at])
	}
	for at := range len(s) {
		if !fits(at) {
			return false
		}
	}
	return s != ""
}

func isFigure(c byte) bool { return '0' <= c && c <= '9' }

func isLetter(c byte) bool {
	return 'A' <= c && c <= 'Z' || 'a' <= c && c <= 'z' || c == '_'
}
