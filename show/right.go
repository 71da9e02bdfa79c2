package show

import (
	"slices"
	"strings"

	"dragoman/api"
	"dragoman/hex"
)

// marks are the bytes that don't stand in a word as they are.
const marks = " \t\n;|&<>()*?[]{}~" + bound

// barred are those that don't stand behind a name's sign.
const barred = "}\n" + bound

// bound are those that don't stand between double brackets.
const bound = "'\"$\\`"

// Right: are commands right?
func Right(l []api.Cmd) bool { return right(l, 0) }

// right: are commands right that stand in so many if, while, for and $( ?
func right(l []api.Cmd, deep int) bool {
	if deep > api.MaxNest {
		return false
	}
	for _, c := range l {
		if !alone(c) || !whole(c, deep) {
			return false
		}
	}
	return true
}

// body: are commands right that stand there, one at least?
func body(l []api.Cmd, deep int) bool { return len(l) > 0 && right(l, deep) }

// alone: has a command nothing but what its kind may have?
func alone(c api.Cmd) bool {
	switch c.Kind {
	case api.CSimple:
		c.Names, c.Values, c.Words = nil, nil, nil
	case api.CPipe, api.COr:
		c.A = nil
	case api.CIf:
		c.A, c.B, c.C = nil, nil, nil
	case api.CWhile:
		c.A, c.B = nil, nil
	case api.CFor:
		c.Names, c.Words, c.B = nil, nil, nil
	}
	return len(c.Names)+len(c.Values)+len(c.Words)+len(c.A)+len(c.B)+len(c.C) == 0
}

// whole: is what a command's kind asks for there, and right?
func whole(c api.Cmd, deep int) bool {
	switch c.Kind {
	case api.CSimple:
		return rightSimple(c, deep)
	case api.CPipe:
		return len(c.A) > 1 && !slices.ContainsFunc(c.A, notPiped) && right(c.A, deep)
	case api.COr:
		return len(c.A) > 1 && !slices.ContainsFunc(c.A, isOr) && right(c.A, deep)
	case api.CIf:
		return body(c.A, deep+1) && body(c.B, deep+1) && right(c.C, deep+1)
	case api.CWhile:
		return body(c.A, deep+1) && body(c.B, deep+1)
	case api.CFor:
		return len(c.Names) == 1 && hex.IsName(c.Names[0]) && rightWords(c.Words, deep+1) && body(c.B, deep+1)
	}
	return false
}

// notPiped: can't it stand in a pipe?
func notPiped(c api.Cmd) bool { return c.Kind != api.CSimple || len(c.Names) > 0 }

// isOr: is it a row with || between?
func isOr(c api.Cmd) bool { return c.Kind == api.COr }

// rightSimple: are a simple command's names, values and words right?
func rightSimple(c api.Cmd, deep int) bool {
	if len(c.Names) != len(c.Values) || len(c.Names) == 0 && len(c.Words) == 0 {
		return false
	}
	for i, name := range c.Names {
		if !hex.IsName(name) || !rightParts(c.Values[i].L, deep) {
			return false
		}
	}
	return rightWords(c.Words, deep) && (len(c.Words) == 0 || isFirst(c.Words[0]))
}

// isFirst: would a word, as a command's first one, be read as such?
func isFirst(w api.Word) bool {
	s := ahead(w)
	if name, _, assigns := strings.Cut(s, "="); assigns && hex.IsName(name) {
		return false
	}
	return len(w.L) > 1 || !isKey(s)
}

// isKey: is it a word of the language?
func isKey(s string) bool {
	switch s {
	case "if", "then", "else", "fi", "while", "do", "done", "for", "in":
		return true
	}
	return false
}

// ahead is the plain text with which a word begins: nothing, if it begins with something else.
func ahead(w api.Word) string {
	if len(w.L) == 0 || w.L[0].Kind != api.PLit || w.L[0].Quoted {
		return ""
	}
	return w.L[0].S
}

// rightWords: are words right that are no values?
func rightWords(l []api.Word, deep int) bool {
	for _, w := range l {
		// What begins with # would be read as a remark.
		if len(w.L) == 0 || strings.HasPrefix(ahead(w), "#") || !rightParts(w.L, deep) {
			return false
		}
	}
	return true
}

// rightParts: are a word's parts right?
func rightParts(l []api.Part, deep int) bool {
	for i, p := range l {
		if !rightPart(p, deep) || i > 0 && areOne(l[i-1], p) {
			return false
		}
	}
	return true
}

// areOne: would two parts that stand side by side be read as one?
func areOne(a, b api.Part) bool {
	return a.Kind == api.PLit && b.Kind == api.PLit && a.Quoted == b.Quoted
}

// rightPart: is a part right?
func rightPart(p api.Part, deep int) bool {
	// What only some kinds have is asked of by itself.
	if p.T != "" && !hasSign(p.Kind) || len(p.L) > 0 && p.Kind != api.PCmd {
		return false
	}
	switch p.Kind {
	case api.PLit:
		return p.Quoted || p.S != "" && !strings.ContainsAny(p.S, marks)
	case api.PVar, api.PElse, api.PLen, api.PHead, api.PTail:
		return hex.IsName(p.S) && !strings.ContainsAny(p.T, barred)
	case api.PCmd:
		return p.S == "" && right(p.L, deep+1)
	case api.PArith:
		return !strings.ContainsAny(p.S, bound) && isPaired(p.S)
	}
	return false
}

// hasSign: does something stand behind a name's sign in parts of this kind?
func hasSign(kind int) bool {
	return kind == api.PElse || kind == api.PHead || kind == api.PTail
}

// isPaired: does each ) close a ( ahead of it, and is none left open?
func isPaired(s string) bool {
	open := 0
	for i := range len(s) {
		switch s[i] {
		case '(':
			open++
		case ')':
			open--
		}
		if open < 0 {
			return false
		}
	}
	return open == 0
}
