package shell

import (
	"regexp"
	"slices"
	"strings"
	"testing"

	"dragoman/api"
)

// A second reading of the chapter, without a call within a call: what is open stands on a row of its own, Go's regular expressions tell what is next, and literals are joined when a word is whole.

// What an open list, or row of words, waits for.
const (
	waitLine   = iota // a line, an end, or what ends the list
	waitCmd           // a command, behind | or ||
	waitWord          // more of a simple command
	waitBehind        // what may stand behind a command
	waitItem          // a word of for
	waitDo            // do
	inWord            // more of a word
	inQuote           // more of a word, between "
)

// open is a list that is being read, and the command or word in which it stands.
type open struct {
	kind byte    // 't' the text, 'i', 'w', 'f', or '(' of $(
	at   int     // of if: which of its lists
	cmd  api.Cmd // of if, while, for
	// What is read so far: lines; of the line: what || and | stand between; a simple command.
	lines, ors, pipes []api.Cmd
	now               api.Cmd
	// The word that is being read: is it a value, what waits for it, where its " began.
	parts      []api.Part
	value      bool
	waits      int
	word, from int
}

// second is a text that is being read so.
type second struct {
	rest string
	open []*open
}

// ahead are regular expressions that stand at the beginning of the rest.
func ahead(s string) *regexp.Regexp { return regexp.MustCompile(`^(?s:` + s + `)`) }

const (
	secondPlain = "[^ \t\n;|&<>()\"'`$\\\\*?\\[\\]{}~]"
	secondName  = `[A-Za-z_][A-Za-z0-9_]*`
	secondT     = "[^}'\"$\\\\`\n]*"
	secondAlone = "(?:$|[^'\"$\\\\a-zA-Z0-9_#!%+,./:=@^\x00-\x08\x0b-\x1f\x7f-\u00ff-])"
)

var (
	aheadGap    = ahead("[ \t]+|#[^\n]*")
	aheadEnd    = ahead("[\n;]")
	aheadLine   = ahead("\n")
	aheadAssign = ahead("(" + secondName + ")=")
	aheadPlain  = ahead(secondPlain + "+")
	aheadSingle = ahead("'([^']*)'")
	aheadBack   = ahead(`\\([^` + "\n])")
	aheadDouble = ahead("[^\"$\\\\`]+")
	aheadBound  = ahead("\\\\([\"$\\\\`])")
	aheadVar    = ahead(`\$(` + secondName + `)|\$\{(` + secondName + `)\}`)
	aheadSign   = ahead(`\$\{(` + secondName + `)(:-|#|%)(` + secondT + `)\}`)
	aheadLen    = ahead(`\$\{#(` + secondName + `)\}`)
	aheadFor    = ahead("[ \t]+(" + secondName + ")[ \t]+in" + secondAlone)
	aheadKey    = ahead("(if|then|else|fi|while|do|done|for|in)" + secondAlone)
	aheadOpens  = ahead("['\"$\\\\]|" + secondPlain)
)

// runes is a text in which each byte is a rune: so Go's own regular expressions go byte by byte.
func runes(s string) string {
	l := make([]rune, len(s))
	for i := range l {
		l[i] = rune(s[i])
	}
	return string(l)
}

// bytesOf is a text of which runes made that one.
func bytesOf(s string) string {
	var l []byte
	for _, r := range s {
		l = append(l, byte(r))
	}
	return string(l)
}

// is goes behind what stands ahead, and tells what its groups hold.
func (r *second) is(re *regexp.Regexp) []string {
	m := re.FindStringSubmatch(r.rest)
	if m != nil {
		r.rest = r.rest[len(m[0]):]
	}
	return m
}

// secondRead is what Read must answer.
func secondRead(s string) ([]api.Cmd, api.Errno) {
	r := second{rest: runes(s), open: []*open{{kind: 't'}}}
	for {
		top := r.open[len(r.open)-1]
		if top.waits != inWord && top.waits != inQuote {
			for r.is(aheadGap) != nil {
			}
		}
		if r.rest == "" && len(r.open) == 1 && (top.waits < waitCmd || top.waits == waitWord || top.waits == waitBehind) {
			if !r.finish(top, ';') {
				return nil, api.ErrSyntax
			}
			return top.lines, api.OK
		}
		if e := r.step(top); e != api.OK {
			return nil, e
		}
	}
}

// step goes on by one thing.
func (r *second) step(top *open) api.Errno {
	switch top.waits {
	case inWord:
		return r.stepWord(top)
	case inQuote:
		return r.stepQuote(top)
	case waitItem:
		if aheadOpens.MatchString(r.rest) {
			r.begin(top, false, waitItem)
		} else if r.is(aheadEnd) == nil {
			return api.ErrSyntax
		} else {
			top.waits = waitDo
		}
		return api.OK
	case waitDo:
		if r.is(aheadEnd) == nil {
			if m := aheadKey.FindStringSubmatch(r.rest); m == nil || m[1] != "do" {
				return api.ErrSyntax
			}
			r.rest = r.rest[2:]
			top.at, top.waits = 1, waitLine
		}
		return api.OK
	case waitLine:
		if r.is(aheadEnd) != nil {
			return api.OK
		}
		if r.closes(top) {
			return api.OK
		}
		return r.stepCmd(top)
	case waitCmd:
		if r.is(aheadLine) != nil {
			return api.OK
		}
		return r.stepCmd(top)
	case waitWord:
		if m := aheadKey.FindStringSubmatch(r.rest); m != nil && len(top.now.Words) == 0 {
			return api.ErrSyntax
		}
		if aheadOpens.MatchString(r.rest) {
			value := len(top.now.Words) == 0
			r.begin(top, value && r.assign(top), waitWord)
			return api.OK
		}
	}
	return r.stepBehind(top)
}

// stepBehind goes on behind a command.
func (r *second) stepBehind(top *open) api.Errno {
	for _, mark := range []string{"||", "|"} {
		if strings.HasPrefix(r.rest, mark) {
			if !r.finish(top, mark[len(mark)-1]+byte(len(mark))-1) {
				return api.ErrSyntax
			}
			r.rest = r.rest[len(mark):]
			top.waits = waitCmd
			return api.OK
		}
	}
	if !r.finish(top, ';') {
		return api.ErrSyntax
	}
	if r.is(aheadEnd) != nil || r.closes(top) {
		return api.OK
	}
	return api.ErrSyntax
}

// finish puts the command that was read where it belongs; behind is |, } for ||, or ; for neither.
func (r *second) finish(top *open, behind byte) bool {
	if top.waits == waitLine {
		return true
	}
	c := top.now
	top.now = api.Cmd{}
	if (behind == '|' || len(top.pipes) > 0) && (c.Kind != api.CSimple || len(c.Names) > 0) {
		return false
	}
	top.pipes = append(top.pipes, c)
	if behind != '|' {
		c := api.Cmd{Kind: api.CPipe, A: top.pipes}
		if len(top.pipes) == 1 {
			c = top.pipes[0]
		}
		top.ors, top.pipes = append(top.ors, c), nil
	}
	if behind == ';' {
		c := api.Cmd{Kind: api.COr, A: top.ors}
		if len(top.ors) == 1 {
			c = top.ors[0]
		}
		top.lines, top.ors = append(top.lines, c), nil
	}
	top.waits = waitLine
	return true
}

// closes: does what is next end the list? Then it goes behind that.
func (r *second) closes(top *open) bool {
	if len(top.lines) == 0 && top.kind != '(' {
		return false
	}
	if top.kind == '(' && strings.HasPrefix(r.rest, ")") {
		r.rest = r.rest[1:]
		r.open = r.open[:len(r.open)-1]
		parts := r.open[len(r.open)-1].parts
		parts[len(parts)-1].L = top.lines
		return true
	}
	m := aheadKey.FindStringSubmatch(r.rest)
	if m == nil {
		return false
	}
	switch string(top.kind) + string('0'+rune(top.at)) + m[1] {
	case "i0then", "w0do":
		top.cmd.A = top.lines
	case "i1else":
		top.cmd.B = top.lines
	case "i1fi", "w1done", "f1done":
		top.cmd.B = top.lines
		r.leave(top)
	case "i2fi":
		top.cmd.C = top.lines
		r.leave(top)
	default:
		return false
	}
	r.rest = r.rest[len(m[1]):]
	top.lines, top.waits = nil, waitLine
	top.at++
	return true
}

// leave hands a command to the list in which it stands.
func (r *second) leave(top *open) {
	r.open = r.open[:len(r.open)-1]
	outer := r.open[len(r.open)-1]
	outer.now, outer.waits = top.cmd, waitBehind
}

// enter opens one more of what is counted.
func (r *second) enter(o *open) api.Errno {
	if len(r.open) > api.MaxNest {
		return api.ErrDeep
	}
	r.open = append(r.open, o)
	return api.OK
}

// stepCmd begins a command.
func (r *second) stepCmd(top *open) api.Errno {
	if m := aheadKey.FindStringSubmatch(r.rest); m != nil {
		o := &open{kind: m[1][0], cmd: api.Cmd{Kind: map[string]int{"if": api.CIf, "while": api.CWhile, "for": api.CFor}[m[1]]}}
		if o.cmd.Kind == 0 {
			return api.ErrSyntax
		}
		r.rest = r.rest[len(m[1]):]
		if e := r.enter(o); e != api.OK || m[1] != "for" {
			return e
		}
		head := aheadFor.FindStringSubmatch(r.rest)
		if head == nil {
			return api.ErrSyntax
		}
		r.rest = r.rest[strings.LastIndex(head[0], "in")+2:]
		o.cmd.Names, o.waits = []string{head[1]}, waitItem
		return api.OK
	}
	if !aheadOpens.MatchString(r.rest) {
		return api.ErrSyntax
	}
	top.now = api.Cmd{Kind: api.CSimple}
	r.begin(top, r.assign(top), waitWord)
	return api.OK
}

// assign goes behind a name and its =, if they are next.
func (r *second) assign(top *open) bool {
	m := r.is(aheadAssign)
	if m != nil {
		top.now.Names = append(top.now.Names, m[1])
	}
	return m != nil
}

// begin begins a word.
func (r *second) begin(top *open, value bool, behind int) {
	top.parts, top.value, top.word, top.waits = nil, value, behind, inWord
}

// stepWord goes on in a word.
func (r *second) stepWord(top *open) api.Errno {
	add := func(s string, quoted bool) api.Errno {
		top.parts = append(top.parts, api.Part{Kind: api.PLit, Quoted: quoted, S: bytesOf(s)})
		return api.OK
	}
	if m := r.is(aheadPlain); m != nil {
		return add(m[0], false)
	}
	if m := r.is(aheadSingle); m != nil {
		return add(m[1], true)
	}
	if m := r.is(aheadBack); m != nil {
		return add(m[1], true)
	}
	switch {
	case strings.HasPrefix(r.rest, `"`):
		r.rest = r.rest[1:]
		top.from, top.waits = len(top.parts), inQuote
		return api.OK
	case strings.HasPrefix(r.rest, "$"):
		return r.stepPart(top, false)
	case strings.HasPrefix(r.rest, "'"), strings.HasPrefix(r.rest, `\`):
		return api.ErrSyntax
	}
	w := api.Word{L: joined(top.parts)}
	switch {
	case top.word == waitItem:
		top.cmd.Words = append(top.cmd.Words, w)
	case top.value:
		top.now.Values = append(top.now.Values, w)
	default:
		top.now.Words = append(top.now.Words, w)
	}
	top.waits = top.word
	return api.OK
}

// stepQuote goes on between ".
func (r *second) stepQuote(top *open) api.Errno {
	m := r.is(aheadDouble)
	if m == nil {
		if m = r.is(aheadBound); m != nil {
			m = m[1:]
		}
	}
	switch {
	case m != nil:
		top.parts = append(top.parts, api.Part{Kind: api.PLit, Quoted: true, S: bytesOf(m[0])})
	case strings.HasPrefix(r.rest, `"`):
		r.rest = r.rest[1:]
		if len(top.parts) == top.from {
			top.parts = append(top.parts, api.Part{Kind: api.PLit, Quoted: true})
		}
		top.waits = inWord
	case strings.HasPrefix(r.rest, "$"):
		return r.stepPart(top, true)
	default:
		return api.ErrSyntax
	}
	return api.OK
}

// stepPart goes behind a part with $, or behind its $(.
func (r *second) stepPart(top *open, quoted bool) api.Errno {
	p := api.Part{Quoted: quoted}
	if m := r.is(aheadVar); m != nil {
		p.Kind, p.S = api.PVar, m[1]+m[2]
	} else if m := r.is(aheadSign); m != nil {
		p.Kind, p.S, p.T = map[string]int{":-": api.PElse, "#": api.PHead, "%": api.PTail}[m[2]], m[1], bytesOf(m[3])
	} else if m := r.is(aheadLen); m != nil {
		p.Kind, p.S = api.PLen, m[1]
	} else if strings.HasPrefix(r.rest, "$((") {
		s, behind, is := around(r.rest[3:])
		if !is {
			return api.ErrSyntax
		}
		p.Kind, p.S, r.rest = api.PArith, bytesOf(s), behind
	} else if strings.HasPrefix(r.rest, "$(") {
		p.Kind, r.rest = api.PCmd, r.rest[2:]
		top.parts = append(top.parts, p)
		return r.enter(&open{kind: '('})
	} else {
		return api.ErrSyntax
	}
	top.parts = append(top.parts, p)
	return api.OK
}

// around is the text ahead of the first two ) ahead of which there are as many ) as (, and what stands behind.
func around(s string) (string, string, bool) {
	for at := range len(s) {
		if s[at] == ')' && strings.Count(s[:at], "(") == strings.Count(s[:at], ")") {
			inside := s[:at]
			return inside, strings.TrimPrefix(s[at:], "))"), strings.HasPrefix(s[at:], "))") && !strings.ContainsAny(inside, "'\"$\\`")
		}
	}
	return "", "", false
}

// joined are parts in which literals that stand side by side are one.
func joined(l []api.Part) []api.Part {
	for i := len(l) - 1; i > 0; i-- {
		if l[i].Kind == api.PLit && l[i-1].Kind == api.PLit && l[i].Quoted == l[i-1].Quoted {
			l[i-1].S += l[i].S
			l = slices.Delete(l, i, i+1)
		}
	}
	return l
}

// alike holds Read against the second reading.
func alike(t *testing.T, s string) api.Errno {
	t.Helper()
	l, e := Read(s)
	k, f := secondRead(s)
	if e != f || !Same(l, k) || told(l) != told(k) || e != api.OK && l != nil {
		t.Fatalf("Read(%q): %d, %s, not %d, %s", s, e, told(l), f, told(k))
	}
	return e
}

// P11.1: all short texts of these bytes.
func TestShort(t *testing.T) {
	t.Parallel()
	for of, most := range map[string]int{"a \n;|#=$'\"\\(){&": 4, "a $()\n\"#": 6, "a |=;\n": 7, "$x{}#:-%()\"": 5} {
		for _, s := range texts(strings.Split(of, ""), most) {
			alike(t, s)
		}
	}
}

// P11.1: all short texts of these pieces, with blanks behind them, without, and with byte 10 as the end.
func TestShortPieces(t *testing.T) {
	t.Parallel()
	many := map[api.Errno]int{}
	for of, most := range map[string]int{
		"if then else fi a x=1 ; |":   5,
		"while do done a ; x= | ||":   5,
		"for x in do done ; a |":      5,
		"if then fi a ; $( )":         6,
		"for_x_in ; do a done fi if":  6,
		"if_a;then b ; else fi |":     5,
		"while_a;do b ; fi done | ||": 5,
		"if then else fi while do done for x in a x=1 | || ; $( ) \" '' # \\ & $x": 3,
	} {
		pieces := strings.Fields(of)
		for i, piece := range pieces {
			pieces[i] = strings.ReplaceAll(piece, "_", " ") + " "
		}
		for _, s := range texts(pieces, most) {
			many[alike(t, s)]++
			alike(t, strings.ReplaceAll(s, " ", ""))
			alike(t, strings.ReplaceAll(s, "; ", "\n"))
		}
	}
	if many[api.OK] < 3000 || many[api.ErrSyntax] < 3000 {
		t.Errorf("too few are scripts, or none: %v", many)
	}
}
