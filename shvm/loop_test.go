package shvm

import "testing"

// P14.2: rounds while it is well.
func TestWhile(t *testing.T) {
	holdAll(t, []ends{
		{"while false; do echo a; done", "", 0, 3}, {"false; while false; do :; done", "", 0, 4}, {"while nope; do echo a; done", "", 0, 3},
		{"x=1; while test $x -lt 4; do echo $x; x=$((x+1)); done", "1\n2\n3\n", 0, 1 + 1 + 4*2 + 3*2},
		// Its status is that of what it does, not of what it asks.
		{"x=0; while test $x = 0; do x=1; false; done", "", 1, 1 + 1 + 2*2 + 2}, {"x=; while test -z \"$x\"; do x=1; nope; done", "", 127, 1 + 1 + 2*2 + 2}, {"x=0; while test $x -lt 2; do x=$((x+1)); test $x = 2; done", "", 0, 1 + 1 + 3*2 + 2*2}, {"x=0; while test $x -lt 2; do x=$((x+1)); test $x = 1; done", "", 1, 1 + 1 + 3*2 + 2*2}, {"x=0; while nope; test $x = 0; do x=1; false; done; echo a", "a\n", 0, 1 + 1 + 2*3 + 2 + 1},
		// It may ask more than one.
		{"x=; while x=a$x; test $x != aaa; do echo $x; done", "a\naa\n", 0, 1 + 1 + 3*3 + 2},
		// In one another.
		{"x=0; while test $x -lt 2; do y=0; while test $y -lt 2; do echo $x$y; y=$((y+1)); done; x=$((x+1)); done", "00\n01\n10\n11\n", 0, 1 + 1 + 3*2 + 2*(1+1+3*2+2*2+1)},
	})
}

// P14.2: a round for each field.
func TestFor(t *testing.T) {
	holdAll(t, []ends{
		{"for i in; do echo a; done", "", 0, 1}, {"false; for i in; do :; done", "", 0, 2}, {"for i in $z; do echo a; done; echo \"<$i>\"", "<>\n", 0, 2}, {"for i in a b; do echo $i; done; echo $i", "a\nb\nb\n", 0, 1 + 2*2 + 1}, {"for i in ''; do echo \"<$i>\"; done", "<>\n", 0, 3},
		{"x=' a  b '; for i in $x\"$x\"; do echo \"<$i>\"; done", "<a>\n<b>\n< a  b >\n", 0, 1 + 1 + 3*2}, {"x='a b'; for i in c$x d; do echo $i; done", "ca\nb\nd\n", 0, 1 + 1 + 3*2}, {"for i in $(echo a; echo b); do echo $i; done", "a\nb\n", 0, 1 + 2 + 2*2},
		// All of them are made ahead.
		{"x='a b'; for i in $x; do x=; echo $i; done", "a\nb\n", 0, 1 + 1 + 2*3}, {"i=x; for i in a$i b$i; do echo $i; done", "ax\nbx\n", 0, 1 + 1 + 2*2}, {"for i in a b; do echo $i; i=z; done; echo $i", "a\nb\nz\n", 0, 1 + 2*3 + 1},
		{"for i in 1 2; do test $i = 2; done", "", 0, 1 + 2*2}, {"for i in 1 2; do test $i = 1; done", "", 1, 1 + 2*2}, {"for i in 1; do nope; done", "", 127, 3}, {"for i in $(false); do :; done", "", 0, 2},
		{"for i in 1 2; do for j in a b; do echo $i$j; done; done", "1a\n1b\n2a\n2b\n", 0, 1 + 2*(1+1+2*2)}, {"for i in 1 2; do for i in a b; do :; done; echo $i; done", "b\nb\n", 0, 1 + 2*(1+1+2*2+1)},
	})
}

// P14.2: loops that are left, or go on, from within.
func TestBreak(t *testing.T) {
	holdAll(t, []ends{
		// None around: nothing.
		{"break", "", 0, 1}, {"continue", "", 0, 1}, {"break; echo a", "a\n", 0, 2}, {"false; break", "", 0, 2}, {"break 3 || echo a", "", 0, 2}, {"if break; then continue 2; echo a; fi", "a\n", 0, 4}, {"break; for i in 1 2; do echo $i; done", "1\n2\n", 0, 1 + 1 + 2*2}, {"for i in 1; do :; done; break; echo a", "a\n", 0, 1 + 2 + 1 + 1},
		{"while :; do break; done; echo a", "a\n", 0, 5}, {"while :; do break; echo b; done", "", 0, 4}, {"for i in 1 2 3; do if test $i = 2; then continue; fi; echo $i; done", "1\n3\n", 0, 1 + 2*4 + 4}, {"for i in 1 2 3; do if test $i = 2; then break; fi; echo $i; done; echo $i", "1\n2\n", 0, 1 + 4 + 4 + 1}, {"for i in 1 2; do continue; echo a; done", "", 0, 1 + 2*2},
		{"x=0; while test $x -lt 3; do x=$((x+1)); if test $x = 2; then continue; fi; echo $x; done", "1\n3\n", 0, 1 + 1 + 4*2 + 2*4 + 4},
		// More than one.
		{"for i in 1 2; do for j in a b; do break; done; echo $i; done; echo z", "1\n2\nz\n", 0, 1 + 2*(1+1+2+1) + 1}, {"for i in 1 2; do for j in a b; do break 1; done; echo $i; done; echo z", "1\n2\nz\n", 0, 1 + 2*(1+1+2+1) + 1}, {"for i in 1 2; do for j in a b; do break 2; done; echo $i; done; echo z", "z\n", 0, 1 + 1 + 1 + 2 + 1}, {"for i in 1 2; do for j in a b; do continue 2; done; echo $i; done; echo z", "z\n", 0, 1 + 2*(1+1+2) + 1}, {"for i in 1 2; do for j in a b; do continue 1; done; echo $i; done; echo z", "1\n2\nz\n", 0, 1 + 2*(1+1+2*2+1) + 1},
		{"for i in 1 2; do for j in a b; do for k in x y; do echo $i$j$k; continue 2; done; done; done", "1ax\n1bx\n2ax\n2bx\n", 0, 1 + 2*(1+1+2*(1+1+1+2))}, {"for i in 1 2; do for j in a b; do for k in x y; do echo $i$j$k; break 2; done; done; done", "1ax\n2ax\n", 0, 1 + 2*(1+1+1+1+1+2)}, {"for i in 1 2; do for j in a b; do for k in x y; do echo $i$j$k; continue 3; done; done; done", "1ax\n2ax\n", 0, 1 + 2*(1+1+1+1+1+2)}, {"for i in 1 2; do for j in a b; do for k in x y; do echo $i$j$k; break 3; done; done; done", "1ax\n", 0, 1 + 1 + 1 + 1 + 1 + 1 + 2},
		// The outermost one, if there are fewer.
		{"for i in 1 2; do break 9; done; echo a", "a\n", 0, 1 + 2 + 1}, {"for i in 1 2; do continue 9; echo $i; done; echo a", "a\n", 0, 1 + 2*2 + 1}, {"for i in 1 2; do for j in a b; do continue 3; done; echo $i; done", "", 0, 1 + 2*(1+1+2)}, {"for i in 1 2; do for j in a b; do break 4611686018427387904; done; done; echo a", "a\n", 0, 1 + 1 + 1 + 2 + 1}, {"for i in 1 2; do for j in a b; do continue 4611686018427387904; done; done; echo a", "a\n", 0, 1 + 2*(1+1+2) + 1},
		// What was left is forgotten.
		{"for i in 1 2; do break 9; done; for i in a b; do for j in 1 2; do echo $i$j; done; done", "a1\na2\nb1\nb2\n", 0, 1 + 2 + 1 + 2*(1+1+2*2)}, {"for i in 1 2; do for j in a; do continue 2; done; done; for i in a b; do break; done; echo $i", "a\n", 0, 1 + 2*(1+1+2) + 1 + 2 + 1},
		// Other words: nothing is done.
		{"break 0", "", 2, 1}, {"break -1", "", 2, 1}, {"break x", "", 2, 1}, {"break ''", "", 2, 1}, {"break 1 1", "", 2, 1}, {"break 1x", "", 2, 1}, {"break ' 1'", "", 2, 1}, {"break 1.5", "", 2, 1}, {"break 4611686018427387904", "", 0, 1}, {"break 4611686018427387905", "", 2, 1}, {"break 9223372036854775807", "", 2, 1}, {"break 9223372036854775808", "", 2, 1}, {"break 18446744073709551617", "", 2, 1}, {"continue 0", "", 2, 1}, {"continue 1 2", "", 2, 1}, {"continue x", "", 2, 1}, {"continue 4611686018427387904", "", 0, 1}, {"continue 4611686018427387905", "", 2, 1}, {"continue -0", "", 2, 1},
		{"for i in 1 2; do break 0; echo $i; done", "1\n2\n", 0, 1 + 2*3}, {"for i in 1 2; do continue x; echo $i; done", "1\n2\n", 0, 1 + 2*3}, {"for i in 1 2; do break 1 1 || echo $i; done", "1\n2\n", 0, 1 + 2*4}, {"for i in 1 2; do break 4611686018427387905; done", "", 2, 1 + 2*2}, {"for i in 1 2; do break 01; echo a; done", "", 0, 1 + 2},
	})
}

// P14.2: from a choice, a row, what a loop asks, and the words of one.
func TestBreakWithin(t *testing.T) {
	holdAll(t, []ends{
		{"for i in 1 2; do if break; then echo a; else echo b; fi; echo c; done; echo d", "d\n", 0, 1 + 1 + 2 + 1}, {"for i in 1 2; do if continue; then echo a; else echo b; fi; echo c; done; echo d", "d\n", 0, 1 + 2*3 + 1}, {"for i in 1 2; do false || break || echo a; echo c; done; echo d", "d\n", 0, 1 + 1 + 3 + 1}, {"for i in 1 2; do false || continue || echo a; echo c; done; echo d", "d\n", 0, 1 + 2*(1+3) + 1}, {"for i in 1 2; do break || echo a; done; echo d", "d\n", 0, 1 + 1 + 2 + 1}, {"for i in 1 2; do eval 'if true; then break; fi; echo a'; echo b; done; echo d", "d\n", 0, 1 + 1 + 1 + 3 + 1},
		// What a loop asks stands in it, too.
		{"while break; do echo a; done; echo b", "b\n", 0, 1 + 1 + 1 + 1}, {"while break; false; do echo a; done", "", 0, 3}, {"x=0; while x=$((x+1)); if test $x -lt 3; then continue; fi; test $x = 3; do echo $x; done", "3\n", 0, 1 + 1 + 2*5 + 6 + 5}, {"for i in 1 2; do while break 2; do echo a; done; echo b; done; echo c", "c\n", 0, 1 + 1 + 1 + 2 + 1}, {"for i in 1 2; do while continue 2; do echo a; done; echo b; done; echo c", "c\n", 0, 1 + 2*(1+1+2) + 1}, {"while while break 2; do :; done; do :; done; echo a", "a\n", 0, 1 + 1 + 1 + 1 + 1 + 1}, {"for i in 1 2; do while break; do echo a; done; echo $i; done", "1\n2\n", 0, 1 + 2*(1+1+2+1)},
		// A loop's status is that of what it did last, also where it is left from what it asks.
		{"x=0; while test $x = 0 || break; do x=1; false; done", "", 1, 1 + 1 + 3 + 2 + 4}, {"for i in 1 2; do false; break; done", "", 0, 1 + 1 + 2}, {"for i in 1 2; do if test $i = 2; then break; fi; false; done", "", 0, 1 + 4 + 4}, {"for i in 1 2; do if test $i = 2; then continue; fi; false; done", "", 0, 1 + 4 + 4},
		// No loop of those around a subshell is one of it.
		{"for i in 1 2; do x=$(break; echo a); echo $x$i; done", "a1\na2\n", 0, 1 + 2*5}, {"for i in 1 2; do echo $(continue 2; echo b)$i; done", "b1\nb2\n", 0, 1 + 2*4}, {"for i in 1 2; do x=$(for j in a b; do break 2; done; echo $j); echo $x$i; done", "a1\na2\n", 0, 1 + 2*(1+1+1+2+2)}, {"for i in $(break; echo 1 2); do echo $i; done", "1\n2\n", 0, 1 + 2 + 2*2}, {"while $(break); do echo a; break; done", "a\n", 0, 1 + 1 + 2 + 2}, {"for i in 1 2; do x=$(eval 'break'; echo a); echo $x$i; done", "a1\na2\n", 0, 1 + 2*6}, {"x=$(break); echo a", "a\n", 0, 3},
	})
}
