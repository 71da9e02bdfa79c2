package shell

import (
	"strings"

	"dragoman/api"
)

// spelling is a word that is being read.
type spelling struct {
	parts []api.Part
	// text is that of the literals that stand side by side at the end, if open.
	text         []byte
	open, quoted bool
}

// literal adds a text, to the literal at the end if that is one of its kind.
func (w *spelling) literal(s string, quoted bool) {
	if w.quoted != quoted {
		w.close()
	}
	w.open, w.quoted = true, quoted
	w.text = append(w.text, s...)
}

// close makes a part of the literal at the end, if there is one.
func (w *spelling) close() {
	if w.open {
		w.parts = append(w.parts, api.Part{Kind: api.PLit, Quoted: w.quoted, S: string(w.text)})
	}
	w.open, w.text = false, w.text[:0]
}

// add adds a part that is no literal.
func (w *spelling) add(p api.Part) {
	w.close()
	w.parts = append(w.parts, p)
}

// words reads words, with gaps ahead of each and behind the last one.
func (r *reader) words() []api.Word {
	var l []api.Word
	for {
		r.gap()
		w := r.word()
		if len(w.L) == 0 {
			return l
		}
		l = append(l, w)
	}
}

// word reads parts, as many as stand side by side: maybe none.
func (r *reader) word() api.Word {
	var w spelling
	for r.rest != "" {
		switch {
		case r.take("'"):
			w.literal(r.single(), true)
		case r.take(`\`):
			need(r.rest != "" && !r.at("\n"))
			w.literal(r.cut(1), true)
		case r.take(`"`):
			r.double(&w)
		case r.take("$"):
			w.add(r.part(false))
		case !r.at(marks):
			w.literal(r.cut(r.until(marks)), false)
		default:
			w.close()
			return api.Word{L: w.parts}
		}
	}
	w.close()
	return api.Word{L: w.parts}
}

// single is what stands ahead of a ', and goes behind that.
func (r *reader) single() string {
	s := r.cut(r.until("'"))
	need(r.take("'"))
	return s
}

// double reads what stands ahead of a ", and goes behind that.
func (r *reader) double(w *spelling) {
	if r.take(`"`) {
		w.literal("", true)
		return
	}
	for !r.take(`"`) {
		switch {
		case r.take("$"):
			w.add(r.part(true))
		case r.take(`\`):
			need(r.at(bound))
			w.literal(r.cut(1), true)
		default:
			long := r.until(bound)
			need(long > 0)
			w.literal(r.cut(long), true)
		}
	}
}

// part reads what stands behind a $.
func (r *reader) part(quoted bool) api.Part {
	p := api.Part{Quoted: quoted}
	switch {
	case r.take("(("):
		p.Kind, p.S = api.PArith, r.reckoned()
	case r.take("("):
		p.Kind = api.PCmd
		r.within(func() {
			p.L = r.list()
			need(r.take(")"))
		})
	case r.take("{#"):
		p.Kind, p.S = api.PLen, r.name()
		need(r.take("}"))
	case r.take("{"):
		r.braced(&p)
	default:
		p.Kind, p.S = api.PVar, r.name()
	}
	return p
}

// reckoned is what stands ahead of two ) that close nothing in it, and goes behind them.
func (r *reader) reckoned() string {
	open := 0
	for i := range len(r.rest) {
		switch r.rest[i] {
		case '\'', '"', '$', '\\', '`':
			panic(api.ErrSyntax)
		case '(':
			open++
		case ')':
			if open == 0 {
				s := r.cut(i)
				need(r.take("))"))
				return s
			}
			open--
		}
	}
	panic(api.ErrSyntax)
}

// braced reads a name, its sign, and what stands behind that, up to a brace and behind it.
func (r *reader) braced(p *api.Part) {
	p.S = r.name()
	long := 1
	if strings.HasPrefix(r.rest, ":") {
		long = 2
	}
	need(long <= len(r.rest))
	kind, is := r.signs[r.cut(long)]
	need(is)
	p.Kind = kind
	if kind != api.PVar {
		p.T = r.cut(r.until(barred))
		need(r.take("}"))
	}
}
