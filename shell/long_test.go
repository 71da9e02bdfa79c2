package shell

import (
	"strings"
	"testing"

	"dragoman/api"
)

// fill is as many of a text as may be in a script, with what stands ahead and behind.
func fill(ahead, s, behind string) (string, int) {
	many := (api.MaxScript - len(ahead) - len(behind)) / len(s)
	return ahead + strings.Repeat(s, many) + behind, many
}

// P11.1: texts as long as may be, of many commands, words, parts.
func TestLong(t *testing.T) {
	t.Parallel()
	for _, l := range []struct {
		ahead, s, behind string
		count            func(many int) int
	}{
		{"", "a\n", "", func(many int) int { return many }},
		{"", ";", "a", func(int) int { return 1 }},
		{"", "#\n", "a", func(int) int { return 1 }},
		{"", "$();", "", func(many int) int { return many }},
		{"", "$(a);", "", func(many int) int { return 2 * many }},
		{"", "x=1;", "", func(many int) int { return many }},
		{"a", "|a", "", func(many int) int { return many + 2 }},
		{"a", "||a", "", func(many int) int { return many + 2 }},
		{"a|", "\n#b\n", "a", func(int) int { return 3 }},
		{"", "if a;then b;else c;fi;", "", func(many int) int { return 4 * many }},
		{"", "while a;do b;done\n", "", func(many int) int { return 3 * many }},
		{"", "for x in a;do b;done\n", "", func(many int) int { return 2 * many }},
		{"if a;then ", "b;", "fi", func(many int) int { return many + 2 }},
		{"for x in ", "b ", ";do c;done", func(int) int { return 2 }},
		{strings.Repeat("$(", 30), "a;", strings.Repeat(")", 30), func(many int) int { return many + 30 }},
		{strings.Repeat("if ", 30) + "a", ";a", strings.Repeat(";then b;fi", 30), func(many int) int { return many + 61 }},
	} {
		s, many := fill(l.ahead, l.s, l.behind)
		k, e := Read(s)
		if e != api.OK || Count(k) != l.count(many) || !Same(k, k) {
			t.Errorf("%q, %d times: %d, %d commands", l.s, many, e, Count(k))
		}
	}
}

// P11.1: a command that is as long as may be: its names, words, parts, and their texts.
func TestLongWords(t *testing.T) {
	t.Parallel()
	for _, l := range []struct {
		ahead, s, behind string
		names, words     func(many int) int
		last             func(many int) int // parts of the last word
		bytes            func(many int) int // bytes of its last part
	}{
		{"", "a ", "", none, all1, one, one},
		{"", "a", "", none, one, one, all1},
		{"", "\\a", "", none, one, one, all1},
		{"", "''", "", none, one, one, none},
		{"", "'a'", "", none, one, one, all1},
		{"", "\"a\"", "", none, one, one, all1},
		{"", "\"\\$\"''\\a", "", none, one, one, double},
		{"\"", "\\\\", "\"", none, one, one, all1},
		{"\"", "a ", "\"", none, one, one, double},
		{"'", "\n", "'", none, one, one, all1},
		{"", "$x", "", none, one, all1, one},
		{"\"", "$x", "\"", none, one, all1, one},
		{"", "a'b'", "", none, one, double, one},
		{"", "${x:-a}", "", none, one, all1, one},
		{"${x:-", "a", "}", none, one, one, one},
		{"$", "x", "", none, one, one, all1},
		{"${#", "x", "}", none, one, one, all1},
		{"$((", "1", "))", none, one, one, all1},
		{"$((", "()", "))", none, one, one, double},
		{"", "$((1))", "", none, one, all1, one},
		{"", "x=", "a", one, none, nil, nil},
		{"", "x= ", "a", all1, one, one, one},
		{"", "x=a ", "b", all1, one, one, one},
		{"", "x", "=1", one, none, nil, nil},
		{"x=1 ", "y=", " z", func(int) int { return 2 }, one, one, one},
		{"a ", "# ", "", none, one, one, one},
	} {
		s, many := fill(l.ahead, l.s, l.behind)
		k, e := Read(s)
		if e != api.OK || len(k) != 1 || len(k[0].Names) != l.names(many) || len(k[0].Words) != l.words(many) {
			t.Errorf("%q, %d times: %d, %d commands", l.s, many, e, len(k))
			continue
		}
		if l.last == nil {
			continue
		}
		last := k[0].Words[len(k[0].Words)-1].L
		if len(last) != l.last(many) || len(last[len(last)-1].S) != l.bytes(many) {
			t.Errorf("%q, %d times: %d parts, %d bytes", l.s, many, len(last), len(last[len(last)-1].S))
		}
	}
}

func none(int) int        { return 0 }
func one(int) int         { return 1 }
func all1(many int) int   { return many }
func double(many int) int { return 2 * many }

// P11.1: long texts that are refused at their end.
func TestLongRefused(t *testing.T) {
	t.Parallel()
	for _, l := range []struct {
		ahead, s, behind string
		want             api.Errno
	}{
		{"", "a\n", "&", api.ErrSyntax},
		{"", "$(a)", "$", api.ErrSyntax},
		{"", "a|", "", api.ErrSyntax},
		{"", "a||", "", api.ErrSyntax},
		{"", "if ", "", api.ErrDeep},
		{"", "while\n", "", api.ErrDeep},
		{"", "$(", "", api.ErrDeep},
		{"", "\"$(", "", api.ErrDeep},
		{"", "x=$(", "", api.ErrDeep},
		{"", "for x in $(", "", api.ErrDeep},
		{"", "if a;then b;fi;", "fi", api.ErrSyntax},
		{"'", "a", "", api.ErrSyntax},
		{"\"", "a", "", api.ErrSyntax},
		{"$((", "(", "", api.ErrSyntax},
		{"$((", "()", ")", api.ErrSyntax},
		{"${", "x", "", api.ErrSyntax},
		{"${x#", "#", "", api.ErrSyntax},
		{"", "x=1 ", "if", api.ErrSyntax},
		{"", "then", " &", api.ErrSyntax},
		{"for x in ", "a ", "", api.ErrSyntax},
		{strings.Repeat("$(", 30), "a;", "$()" + strings.Repeat(")", 30), api.ErrDeep},
	} {
		s, _ := fill(l.ahead, l.s, l.behind)
		refused(t, s, l.want)
	}
}

// P11.1: R4: what a call answers hangs on its text alone.
func TestNoMemory(t *testing.T) {
	l := []string{"a", "$(", "if a;then $(b);fi", strings.Repeat("$(", 31), "x=1 a|b", "\"a", "#", strings.Repeat("if ", 30) + "a", "${x:-a}", "${x:", "fi", "a'b"}
	for _, a := range l {
		want, wantE := Read(a)
		for _, b := range l {
			Read(b)
			if got, e := Read(a); e != wantE || told(got) != told(want) {
				t.Errorf("Read(%q) behind %q: %d, %s", a, b, e, told(got))
			}
		}
	}
}
