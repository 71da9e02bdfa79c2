package util

import (
	"slices"
	"strings"
	"testing"

	"dragoman/api"
)

// strays are texts of all kinds of bytes.
func strays() []string {
	l := []string{"", "\n", "\n\n", "a\n", "x", "x41", " ", everyByte(), strings.Repeat("ab\x00\n", 20000)}
	next := row(3)
	for i := range 500 {
		b := make([]byte, i%50)
		for k := range b {
			b[k] = byte(next(256))
		}
		l = append(l, string(b))
	}
	return l
}

// P13.3: texts in digits are there and back.
func TestThereAndBack(t *testing.T) {
	for _, s := range strays() {
		there := ask([]string{"hex", s}, "", 1)
		digits, ended := strings.CutSuffix(there.out, "\n")
		if !ended || there.status != 0 || there.e != api.OK || strings.Trim(digits, "x0123456789abcdef") != "" {
			t.Fatalf("hex %q: %+v", s, there)
		}
		if back, want := ask([]string{"unhex", digits}, "", 1), (answer{s + "\n", 0, 1, api.OK}); back != want {
			t.Fatalf("%q there and back: %+v", s, back)
		}
	}
}

// P13.3: what is put out hangs neither on fuel (as long as there is enough) nor, but of sed, on the text.
func TestHangsOn(t *testing.T) {
	next := row(33)
	for range 5000 {
		words := strayWords(next)
		want := ask(words, "", 0)
		for _, in := range []string{"a", "a\nb\n", everyByte()} {
			got := ask(words, in, next(1000)-500)
			if got.out != want.out || got.status != want.status || got.e != want.e {
				t.Fatalf("Run(%q): %+v with %q, %+v without", words, got, in, want)
			}
		}
	}
	for _, script := range scripts {
		words := []string{"sed", script}
		enough := ask(words, "ab\nb\na", 10000)
		for fuel := range 100 {
			got := ask(words, "ab\nb\na", fuel)
			if got.e == api.OK && (got.out != enough.out || got.status != enough.status) || got.e == api.ErrFuel && got.out != "" {
				t.Fatalf("Run(%.40q) with %d: %+v, not %+v", words, fuel, got, enough)
			}
		}
	}
}

// R3: words aren't written into, nor is the room behind them; what comes out is nobody else's.
func TestNothingShared(t *testing.T) {
	for _, x := range [][]string{{"test", "a", "=", "b"}, {"test", "1", "-lt", "2"}, {"echo", "a", "b"}, {"dec", "+", "1", "2"}, {"str", "sub", "abc", "1", "2"}, {"str", "field", "1", "a b"}, {"sed", "-n", "p"}, {"sed", "p"}, {"unhex", "x"}} {
		room := append(slices.Clone(x), "kept", "kept")
		first := ask(room[:len(x)], "a\n", 50)
		if again := ask(room[:len(x)], "a\n", 50); again != first {
			t.Errorf("Run(%q): %+v, then %+v", x, first, again)
		}
		if !slices.Equal(room, append(slices.Clone(x), "kept", "kept")) {
			t.Errorf("written into: %q, not %q", room, x)
		}
	}
	const s = "a b c"
	one, two := Fields(s), Fields(s)
	for i := range one {
		one[i] = "gone"
	}
	_ = append(one[:1], "gone", "gone")
	if !slices.Equal(two, []string{"a", "b", "c"}) || !slices.Equal(Fields(s), two) {
		t.Errorf("changed by another one: %q", two)
	}
}

// R4: calls in turns, and at once, answer as they do alone: there is nothing that they could keep.
func TestNothingKept(t *testing.T) {
	next := row(44)
	var calls [][]string
	var alone []answer
	for i := range 600 {
		words := strayWords(next)
		if i%5 == 0 {
			words = []string{"sed", scripts[next(len(scripts))]}
		}
		calls = append(calls, words)
		alone = append(alone, ask(words, "ab\na\n", 40))
	}
	for i := len(calls) - 1; i >= 0; i-- {
		if got := ask(calls[i], "ab\na\n", 40); got != alone[i] {
			t.Errorf("Run(%.40q) once more: %+v, not %+v", calls[i], got, alone[i])
		}
	}
	done := make(chan bool)
	for range 8 {
		go func() {
			same := true
			for i, words := range calls {
				same = same && ask(words, "ab\na\n", 40) == alone[i]
			}
			done <- same
		}()
	}
	for range 8 {
		if !<-done {
			t.Error("at once it is something else")
		}
	}
}
