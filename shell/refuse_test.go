package shell

import (
	"strings"
	"testing"

	"dragoman/api"
)

// refused holds that a text is no script, and why.
func refused(t *testing.T, s string, want api.Errno) {
	t.Helper()
	if l, e := Read(s); l != nil || e != want {
		t.Errorf("Read(%q ..) of %d bytes: %d commands, %d, not %d", s[:min(len(s), 200)], len(s), len(l), e, want)
	}
}

// P11.1: what can't stand, or is missing.
func TestSyntax(t *testing.T) {
	for _, s := range []string{
		// Bytes that stand nowhere as they are.
		"&", "a&", "a &", "a&b", "a&&b", "a && b", "&&a", "<a", "a<b", "a >b", "a>b", "a 2>b", "a>>b", "(a)", "(", ")", "a)", "a (b)", "a()", "a();b", "{a}", "{ a;}", "{", "}", "a{b", "*", "a*", "?", "a?", "[", "]", "[a]", "a [ b ]", "~", "~a", "a~", "x=~", "x=*", "x={", "x=(a)", "x=&", "x=)", "`a`", "`", "a`", "x=`a`",
		// Rows.
		"|", "||", "|a", "||a", "a|", "a||", "a| ", "a|\n", "a||\n\n", "a|;b", "a||;b", "a|\n;b", "a||\n;b", "a||b|", "a|b||", "a||| b", "a|||", "a| |b", "a|| |b", "a|||b", "a||||b", "a| ||b", "a|| ||b", "a|\n|b", "a\n|b", "a\n||b", "a;|b", "a;||b", ";|a", "a|#b", "a||#b", "a|\n#b\n", "a|)", "a||)", "a|b&", "a|fi", "a||fi", "a|then", "a|in b", "a||in b", "a||do",
		// A pipe of others.
		"x=|a", "x=1|a", "a|x=1", "a|x=", "x=1 a|b", "a|x=1 b", "a|b|x=1 c", "a|x=1 b|c", "x=|y=", "a||x=1|b", "a||b|x=1", "if a;then b;fi|c", "a|if b;then c;fi", "a|b|if c;then d;fi", "while a;do b;done|c", "a|while b;do c;done", "for x in;do a;done|b", "a|for x in;do b;done", "a|\n\nif b;then c;fi", "$(x=1|a)", "if a|x=1;then b;fi",
		// if.
		"if", "if ", "if;", "if\n", "if a", "if a;", "if a;then", "if a;then;", "if a;then b", "if a;then b;", "if a;then b;else", "if a;then b;else c", "if a;then b;else c;", "if a;fi", "if a\nfi", "if;then a;fi", "if then a;fi", "if a;then fi", "if a;then;fi", "if a;then\n\nfi", "if a;then b;else fi", "if a;then b;else;fi", "if a;then b;else\n#c\nfi", "if a;else b;fi", "if a;then b;else c;else d;fi", "if a;then b;then c;fi", "if a;then b;elif c;then d;fi", "if a;do b;fi", "if a;then b;done", "if a;then b;do c;fi", "if a then b;fi", "if a;then b fi", "if a|;then b;fi", "if a||then b;fi", "if a;then b|fi", "if a;then b;fi c", "if a;then b;fi fi", "if a;then b;fi then", "if a;then b;fi x=1", "if a;then b;fi 'c'", "if a;then b;fi $c", "if a;then b;fi if c;then d;fi", "if a;then b;fi;fi", "if a;then b;fi&", "if a;then b;fi>c", "if a;then b;fi)", "if a;then b;fi#", "if a;then b;fi''", "if a;then b;\\fi", "if a;then b;'fi'", "if a;'then' b;fi", "'if' a;then b;fi", "if a;then b;f\"i\"", "if a;then b;FI", "if(a);then b;fi", "if a);then b;fi", "if a\nthen\nb\n", "if a;in b;then c;fi",
		// while.
		"while", "while a", "while a;", "while a;do", "while a;do b", "while a;do b;", "while;do a;done", "while do a;done", "while a;do done", "while a;do;done", "while a;do\n#b\ndone", "while a;done", "while a;then b;done", "while a;do b;fi", "while a;do b;do c;done", "while a;do b;else c;done", "while a do b;done", "while a;do b done", "while a;do b;done c", "while a;do b;done done", "while a;do b;done;done", "while a;do b;done do", "while a;do b;'done'", "while a;d\\o b;done", "while a|do b;done", "until a;do b;done;done",
		// for.
		"for", "for ", "for;", "for\n", "for x", "for x;", "for x in", "for x in;", "for x in\n", "for x in a", "for x in a;", "for x in a;do", "for x in a;do b", "for x in a;do b;", "for x in a;do;done", "for x in a;do done", "for x in a;do\n#b\ndone", "for x in a do b;done", "for x in do b;done", "for x;do a;done", "for x do a;done", "for x\nin a;do b;done", "for\nx in a;do b;done", "for x #b\nin a;do b;done", "for #b\nx in a;do b;done", "for x# in a;do b;done", "for x in# a;do b;done", "for x in#\ndo b;done", "for 1 in a;do b;done", "for 1x in a;do b;done", "for x- in a;do b;done", "for x.y in a;do b;done", "for x=1 in a;do b;done", "for 'x' in a;do b;done", "for x'' in a;do b;done", "for ''x in a;do b;done", "for \\x in a;do b;done", "for \"x\" in a;do b;done", "for $x in a;do b;done", "for x$y in a;do b;done", "for x 'in' a;do b;done", "for x i\\n a;do b;done", "for x in'' a;do b;done", "for x in$a;do b;done", "for x ina;do b;done", "for x of a;do b;done", "for x y in a;do b;done", "for in a;do b;done", "for x in a|b;do c;done", "for x in a||b;do c;done", "for x in a&;do b;done", "for x in (a);do b;done", "for x in a;b;do c;done", "for x in a;then b;done", "for x in a;do b;fi", "for x in a;'do' b;done", "for x in a;do'' b;done", "for x in a;dob;done", "for x in a;do b;done c", "for x in a;do b;done;done", "for x in a;do b;done in", "for x in a;do b;done)", "for ((x;y;z));do b;done", "for\xe9 in a;do b;done", "for x\xe9 in a;do b;done",
		// The language's words where they can't stand.
		"then", "else", "fi", "do", "done", "in", "then a", "else a", "fi a", "do a", "done a", "in a", ";then", "\nfi", "a;then", "a\nfi", "a;do b", "a;in b", "x=1 if", "x=1 then", "x=1 else", "x=1 fi", "x=1 while", "x=1 do", "x=1 done", "x=1 for", "x=1 in", "x= if a;then b;fi", "x=1 y=2 if", "x=1 if a", "x=1 while a;do b;done", "x=1 for x in;do a;done", "a|if", "a||x=1 if", "$(fi)", "$(a;fi)", "$(in)", "$(x=1 in)", "if x=1 then b;fi", "if a;then x=1 fi", "while x= do b;done", "if if;then a;fi",
		// Nothing is left open, or closed twice.
		"$(a;b", "$(a))", "if $(a;then b;fi", "$(if a;then b;fi", "$(if a;then b);fi", "if $(a;then) b;fi", "for x in $(a;do b;done", "while $(a;do b);done", "x=$(a", "x=$(a))", "if a;then $(b;fi)", "if a;then (b);fi",
	} {
		refused(t, s, api.ErrSyntax)
		refused(t, "a|b;x=1 c\n"+s, api.ErrSyntax)
		refused(t, "\n#\na;"+s, api.ErrSyntax)
		refused(t, s+"\n&", api.ErrSyntax)
	}
}

// nest is a text in many of what is counted, one in another, that look stray; and how they are closed.
func nest(many int, seed uint64) (string, string) {
	next := row(seed)
	ahead, behind := "", ""
	for range many {
		switch next(9) {
		case 0:
			ahead, behind = ahead+"if ", ";then a;fi"+behind
		case 1:
			ahead, behind = ahead+"if a\nthen b;", "\nfi"+behind
		case 2:
			ahead, behind = ahead+"if a;then b;else ", ";fi"+behind
		case 3:
			ahead, behind = ahead+"while a;do ", ";done"+behind
		case 4:
			ahead, behind = ahead+"while ", "\ndo a;done"+behind
		case 5:
			ahead, behind = ahead+"for x in a\ndo ", ";done"+behind
		case 6:
			ahead, behind = ahead+"for x in $( ", ");do a;done"+behind
			many--
		case 7:
			ahead, behind = ahead+"x=\"$(", ")\""+behind
		default:
			ahead, behind = ahead+"a $(", ")"+behind
		}
	}
	return ahead, behind
}

// P11.1: if, while, for and $( stand in at most 29 of these.
func TestDeep(t *testing.T) {
	t.Parallel()
	const most = api.MaxNest
	open := []struct{ ahead, behind string }{
		{"$(a ", ")"}, {"$(", ")"}, {"\"$(", ")\""}, {"x=$(", ")"}, {"x=\"a$(b ", ")\""}, {"a|b $(", ")"}, {"a||", ""},
		{"if ", ";then a;fi"}, {"if a;then ", ";fi"}, {"if a;then b;else ", ";fi"},
		{"while ", ";do a;done"}, {"while a;do ", ";done"},
		{"for x in a;do ", ";done"},
	}
	for _, o := range open {
		for many := range most + 4 {
			s := strings.Repeat(o.ahead, many) + "c" + strings.Repeat(o.behind, many)
			l, e := Read(s)
			want := api.OK
			if many > most && o.ahead != "a||" {
				want = api.ErrDeep
			}
			if e != want || (e == api.OK) != (len(l) == 1) {
				t.Errorf("%d times %q: %d, not %d", many, o.ahead, e, want)
			}
		}
	}
	// Of for's words, too.
	for many := 13; many <= 17; many++ {
		s := strings.Repeat("for x in $(", many) + "c" + strings.Repeat(");do a;done", many)
		if many <= most/2 {
			if l, e := Read(s); e != api.OK || Count(l) != 2*many+1 {
				t.Errorf("%d, %d commands", e, Count(l))
			}
		} else {
			refused(t, s, api.ErrDeep)
		}
	}
	for seed := range uint64(200) {
		for _, many := range []int{most - 1, most, most + 1} {
			ahead, behind := nest(many, seed+1)
			deep := 0
			for _, sign := range []string{"if ", "while ", "for ", "$("} {
				deep += strings.Count(ahead, sign)
			}
			s := ahead + "c" + behind
			if _, e := Read(s); (e == api.OK) != (deep <= most) || (e == api.ErrDeep) != (deep > most) {
				t.Errorf("%q: %d, in %d", s, e, deep)
			}
		}
	}
}

// P11.1: what is closed counts no more; nor does what isn't named.
func TestDeepEnds(t *testing.T) {
	full, closed := strings.Repeat("$(", 29), strings.Repeat(")", 29)
	for _, s := range []string{
		full + "$(a)$(b) $(c);$(d)|$(e)||$(f)" + closed + full + "$(g)" + closed,
		full + "if a;then b;fi;while c;do d;done||for x in e;do f;done\nif g;then h;else i;fi" + closed,
		full + "$(a $((1)) ${x:-(} ${#x} $x \"$x\")" + closed,
		full + "$($((1))$(((2))))" + closed,
		full + "$(\"$((1))\" 'if $(' \"\\$(\" \\$\\(  if while for #$(\n)" + closed,
		full + "$(a if;b while|c for)" + closed,
		full + "$('if' \"while\" \\for;ifs;for_;if=1)" + closed,
		full + "$(x=if y=$z)" + closed,
		strings.Repeat("$(a);", 999) + strings.Repeat("if a;then b;fi\n", 999),
		strings.Repeat("if a;then b;fi||", 999) + "c",
		strings.Repeat("$(", 30) + strings.Repeat(")", 30),
	} {
		if l, e := Read(s); e != api.OK || len(l) == 0 {
			t.Errorf("%q: %d", s, e)
		}
	}
}

// P11.1: of what can't stand, is missing, and is too deep the first one from the left is told.
func TestFirst(t *testing.T) {
	full := strings.Repeat("$(", 30)
	closed := strings.Repeat(")", 30)
	most := strings.Repeat("if a;then ", 30)
	for _, s := range []string{
		full + "$(", full + "$()", full + "$(&", full + "$()" + closed, full + "$()" + closed + "&", full + "if", full + "if&", full + "if`", full + "if;fi", full + "if then", full + "while do", full + "for", full + "for 1", full + "for;", full + "for(",
		full + "a $(", full + "a 'b'c\"d$(&", full + "x=$(", full + "x=1 $(", full + "x=1 a$(", full + "a|b $(", full + "a|x=$(", full + "a|x=1 b $(", full + "a|if", full + "a|\nwhile", full + "a|for 1", full + "a||if", full + "x=1||if", full + "\n;if", full + "if if", full + "\"a$(", full + "\"a\"$(", full + "#a\nif", full + "then$(", full + "x=1 then$(", full + "in$(", full + "fi\"$(", full + "if$(", full + "if\"$(\"",
		most + "$(", most + "if", most + "b;else $(", most + "b;fi;$($(", most + "b;fi;if if", most + "x=1 $(",
		"a;" + full + "$(", "a|b;" + full + "while",
	} {
		refused(t, s, api.ErrDeep)
	}
	for _, s := range []string{
		full, full + "&$(", full + "a&$(", full + "a)$(&", full + closed + ")" + full + "$(", full + "|$(", full + "a||;$(", full + "a|;$(", full + "x=1|$(", full + "x=1 a|if", full + "a|x=1||$(", full + "a|x=1|$(", full + "a|x=1;$(", full + "a|x=1\nif",
		full + "then $(", full + "fi if", full + "in $(", full + "do;$(", full + "x=1 if $(", full + "x=1 if", full + "x=1 while", full + "x=1 for", full + "x=1 then $(", full + "$ $(", full + "${x$(", full + "${x:-$(", full + "${#$(", full + "$(($(", full + "$((1)$(", full + "$((1) $(", full + "\"\\a$(", full + "\\\n$(", full + "\"`$(", full + "*$(", full + "'$(", full + "if$", full + "if$ ", full + "if\\\n", full + "if\"\\a\"", full + "while${", full + "for'a",
		full[2:] + "if;then $(", full[2:] + "if then if", full[2:] + "if a;then fi;$($(", full[2:] + "if a;then fi $(", full[2:] + "if a;then b;else fi;$($(", full[2:] + "if a;then b;fi $($(", full[2:] + "if a;then b;fi|$($(", full[2:] + "a|if b;then c;fi;$($(", full[2:] + "if a;then b;fi if if", full[2:] + "if a;do $(", full[2:] + "while;do $(", full[2:] + "while do if", full[2:] + "while a;do done;$($(", full[2:] + "while a;then $(",
		// Where a part can't stand at all, that is told.
		full[2:] + "for $(", full[2:] + "for x$(", full[2:] + "for \"$(", full[2:] + "for x $(", full[2:] + "for x in$(", full[2:] + "for x \"$(", full[2:] + "for x in a;$(", full[2:] + "for x in a;b $(", full[2:] + "for x in a;do$(", full[2:] + "for x in a;if", full[2:] + "for x in;do a;done $($(", full[2:] + "for x in;do a;done|$($(", full[2:] + "for 1 in $(", full[2:] + "for x in|$(", full[2:] + "for if while", full[2:] + "for in $(",
		most + "b;fi $(", most + "b;fi $($(", most + "b;fi|$($(", most + "b;fi;fi;fi $($($(", most + "b;fi if if", most + "&if", most + "b;do $(", most + "fi $(", "fi;" + full + "$(", "x=1|" + full + "$(", "a&" + full + "$(",
	} {
		refused(t, s, api.ErrSyntax)
	}
}

// P11.1: ErrBig goes ahead of all.
func TestBig(t *testing.T) {
	t.Parallel()
	const most = api.MaxScript
	for _, s := range []string{"a", " ", "\n", ";", "#", "&", "'", "$(", "if ", "a;", "\\a", "a|", "\"", "x= ", "${", "$((", ")", "fi\n", "a b\n"} {
		full := strings.Repeat(s, most/len(s)+1)[:most]
		_, e := Read(full)
		if e == api.ErrBig {
			t.Errorf("%q: %d bytes may be", s, most)
		}
		refused(t, full+"a", api.ErrBig)
		refused(t, full+full+full, api.ErrBig)
	}
	reads(t, strings.Repeat(" ", most-1)+"a", `S("a")`)
	refused(t, strings.Repeat(" ", most)+"a", api.ErrBig)
	reads(t, "a #"+strings.Repeat("\"", most-3), `S("a")`)
	refused(t, "a #"+strings.Repeat("\"", most-2), api.ErrBig)
}
