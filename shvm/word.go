package shvm

import (
	"math"
	"strings"

	"dragoman/api"
	"dragoman/arith"
	"dragoman/hex"
)

// cuts are the bytes at which what isn't quoted is cut.
const cuts = " \t\n"

// Fields are the fields of parts.
func Fields(parts []string, quoted []bool) []string { return lay(parts, quoted, math.MaxInt) }

// Trim is a text without its last ends.
func Trim(s string) string { return strings.TrimRight(s, "\n") }

// laying is fields that are laid together.
type laying struct {
	fields []string
	text   []byte
	// some: is there something of a field? That may have no bytes.
	some bool
	// most is how many bytes a field may have.
	most int
}

// lay is Fields, of at most so many bytes each.
func lay(parts []string, quoted []bool, most int) []string {
	y := laying{most: most}
	for i, part := range parts {
		if i < len(quoted) && quoted[i] {
			y.add(part)
		} else {
			y.cut(part)
		}
	}
	y.end()
	return y.fields
}

// add adds a text to the field, which there is then.
func (y *laying) add(s string) {
	// Asked ahead of laying, since what is refused may be of any size.
	if len(s) > y.most-len(y.text) {
		panic(api.ErrBig)
	}
	y.text = append(y.text, s...)
	y.some = true
}

// cut adds a text that isn't quoted.
func (y *laying) cut(s string) {
	for s != "" {
		at := strings.IndexAny(s, cuts)
		if at == 0 {
			y.end()
			s = s[1:]
			continue
		}
		if at < 0 {
			at = len(s)
		}
		y.add(s[:at])
		s = s[at:]
	}
}

// end ends the field, if there is something of it.
func (y *laying) end() {
	if y.some {
		y.fields = append(y.fields, string(y.text))
	}
	y.text, y.some = y.text[:0], false
}

// fields are those of words.
func (m *machine) fields(l []api.Word) []string {
	var all []string
	for _, w := range l {
		parts, quoted := make([]string, len(w.L)), make([]bool, len(w.L))
		for i, p := range w.L {
			parts[i], quoted[i] = m.part(p), p.Quoted || p.Kind == api.PLit
		}
		all = append(all, lay(parts, quoted, api.MaxShell)...)
	}
	return all
}

// value is a word's.
func (m *machine) value(w api.Word) string {
	var text strings.Builder
	for _, p := range w.L {
		s := m.part(p)
		if len(s) > api.MaxShell-text.Len() {
			panic(api.ErrBig)
		}
		text.WriteString(s)
	}
	return text.String()
}

// part is a part's value.
func (m *machine) part(p api.Part) string {
	switch p.Kind {
	case api.PLit:
		return p.S
	case api.PCmd:
		return m.caught(p.L)
	case api.PArith:
		return m.reckoned(p.S)
	}
	value, _ := arith.Find(m.vars, p.S)
	switch p.Kind {
	case api.PVar:
		return value
	case api.PElse:
		if value == "" {
			return p.T
		}
		return value
	case api.PLen:
		return hex.Figures(int64(len(value)))
	case api.PHead:
		return strings.TrimPrefix(value, p.T)
	case api.PTail:
		return strings.TrimSuffix(value, p.T)
	}
	return ""
}

// caught is what commands put out as a subshell.
func (m *machine) caught(l []api.Cmd) string {
	// Its first assignment lays a row of its own, since this one isn't owned.
	s := &state{vars: m.vars, most: api.MaxShell}
	status := m.within(s, l)
	m.told = status
	return Trim(string(s.out))
}

// reckoned is what stands between double brackets, in figures.
func (m *machine) reckoned(s string) string {
	n, e := arith.Eval(s, m.vars)
	if e != api.OK {
		panic(e)
	}
	return hex.Figures(n)
}
