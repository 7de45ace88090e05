package sdl_test

import (
	"strings"
	"testing"

	"seine/api"
	"seine/every"
	"seine/sdl"
)

// A frame opens a bracket, and closes it.
type frame struct{ open, close string }

// nested puts s into so many frames, which take turns, the last one innermost.
func nested(n int, s string, l ...frame) string {
	opens, closes := "", ""
	for k := range n {
		f := l[k%len(l)]
		opens += f.open
		closes = f.close + closes
	}
	return opens + s + closes
}

// refusesOrReads holds the error of Read against the wanted one.
func refusesOrReads(t *testing.T, want api.Errno, s string) {
	t.Helper()
	if got, e := sdl.Read(s); e != want || (e == api.OK) != (show(got) != show(api.Schema{})) {
		t.Errorf("Read(%.300s): the error %d, want %d", s, e, want)
	}
}

// valueForms are where a value may stand, at `?`; the braces of definitions do not count.
func valueForms() []string {
	return []string{"input A{a:B=?}", "input A{a:B=[[1]] c:[[[[D]]]]=?}", "type A{a(b:C=?):D}", "interface A implements I{a(b:C=[[1]] d:E=?):F}", "type A{a:B@c(d:?)}", "interface A{a:B@c(d:[[1]])@e(f:{g:1} h:?)i:J}", "schema{query:Q}type A{a:B}enum E{A}input A{a:B=?}", "type A{a(b:C={d:[]}):D@e(f:?)}"}
}

// P8.2: values nested in MaxDeep others and in fewer, whatever they are of.
func TestDeepValues(t *testing.T) {
	for l := range every.List(2, frame{"[", "]"}, frame{"{a:", "}"}, frame{"[1 {}", " 2]"}, frame{"{a:1 b:", " c:[]}"}) {
		for n := 0; n < 20 && len(l) > 0; n++ {
			for _, inner := range []string{"1", "\"[{\"", "E"} {
				v := nested(n, inner, l...)
				for _, form := range valueForms() {
					s := strings.ReplaceAll(form, "?", v)
					refusesOrReads(t, rules.Judge("schema", tokens(s)), s)
				}
			}
		}
	}
	for _, f := range []frame{{"[", "]"}, {"{a:", "}"}} {
		for n := range 20 {
			want := api.OK
			if n > 16 {
				want = api.ErrDeep
			}
			for _, form := range valueForms() {
				refusesOrReads(t, want, strings.ReplaceAll(form, "?", nested(n, "1", f)))
			}
		}
	}
}

// P8.2: lists of types nested in MaxLists others and in fewer, with `!` at every place.
func TestDeepTypes(t *testing.T) {
	for n := range 8 {
		want := api.OK
		if n > 4 {
			want = api.ErrDeep
		}
		for bang := range 2 << n {
			s := typeText(typ("B", n, bang))
			for _, form := range []string{"type A{a:?}", "interface A{a:[[[[B]]]]! b:?@d}", "type A{a(b:?):C}", "type A{a(b:? c:?=[[1]]):?}", "input A{a:?}", "input A{a:[[B]]=[[1]] b:?=1}enum E{A}", "schema{query:Q}interface A implements I{a(b:[[B]]):?}"} {
				refusesOrReads(t, want, strings.ReplaceAll(form, "?", s))
			}
			if got, _ := sdl.Read("type A{a(b:" + s + "):" + s + "}"); want == api.OK && (got.Defs[0].Fields[0].T != typ("B", n, bang) || got.Defs[0].Fields[0].Params[0].T != typ("B", n, bang)) {
				t.Errorf("%s is read as %s", s, show(got))
			}
		}
	}
}

// P8.2: brackets that are closed again do not count, and other brackets never do.
func TestNotDeep(t *testing.T) {
	v := nested(16, "", frame{"[", "]"})
	for _, s := range []string{
		"input A{" + strings.Repeat("a:[[[[B]]]]="+v+" ", 40) + "}",
		"type A{" + strings.Repeat("a(b:[[[[B]]]]="+v+" c:D="+v+"):[[[[B]]]]@d(e:"+v+" f:"+v+")@g(h:"+v+") ", 20) + "}",
		strings.Repeat("type A{a(b:B):C}interface D{a(b:B):C}enum E{A}input F{a:B}", 50),
	} {
		refusesOrReads(t, api.OK, s)
	}
}

// P8.2: where a bracket may not stand at all it is of no form, however deep it is.
func TestDeepElsewhere(t *testing.T) {
	list, object, kind := "input A{a:B="+strings.Repeat("[", 16), "type A{a:B@c(d:"+strings.Repeat("{e:", 16), "type A{a:[[[["
	refuses(t, api.ErrForm, list, list+"$[", list+":[", list+"!", list+"1:[", list+"}", object, object+"1[", object+"1{", object+"1 e[", object+":{", object+"]", object+"$", "input A{a:B="+strings.Repeat("{e:", 15)+"{[", "input A{a:B="+strings.Repeat("{e:", 15)+"{{", kind, kind+"1[", kind+"B[", kind+"![", kind+"{", kind+"\"[\"", kind+"B]]]][", kind+"B]]]]]",
		strings.Repeat("[", 20), strings.Repeat("{", 20), "type"+strings.Repeat("[", 20), "type A"+strings.Repeat("{", 20), "type A{a"+strings.Repeat("[", 20), "type A{a:B"+strings.Repeat("[", 20), "type A{a:B@c(d"+strings.Repeat("{", 20), "union U="+strings.Repeat("[", 20), "enum E"+strings.Repeat("{", 20), "enum E{"+strings.Repeat("[", 20), "schema"+strings.Repeat("{", 20), "schema{query:"+strings.Repeat("[", 20), "input A{a:"+strings.Repeat("{", 20), "type A{a:"+strings.Repeat("{", 20), "type A{a(b:"+strings.Repeat("{", 20), "type A implements"+strings.Repeat("[", 20))
	refuses(t, api.ErrDeep, list+"[", list+"{", list+"1 {", list+"[$", list+"[!", object+"[", object+"{", object+"1 f:{", object+"1 f:[", object+"{}", kind+"[", kind+"[1", kind+"[!", kind+"[B]]]]]",
		"type A{a(b:"+strings.Repeat("[", 5), "type A{a(b:C="+strings.Repeat("[", 17), "input A{a:"+strings.Repeat("[", 8000), "input A{a:B="+strings.Repeat("[", 8000), list+strings.Repeat("]", 16)+"b:C="+strings.Repeat("[", 17))
}

// P8.2: an error of token.Read comes first, wherever it stands.
func TestErrorsOfTokens(t *testing.T) {
	filled := func(s string, n int) string { return s + strings.Repeat(" ", n-len(s)) }
	deepValue, deepType := "input A{a:B="+strings.Repeat("[", 17), "type A{a:"+strings.Repeat("[", 5)
	for s, want := range map[string]api.Errno{
		filled("type A{a:B}", 8192): api.OK, filled("type A{a:B}", 8193): api.ErrSize, filled("type A{a:B}", 1<<20): api.ErrSize,
		filled("", 8192): api.ErrForm, filled("", 8193): api.ErrSize,
		filled(")", 8193): api.ErrSize, filled("\xff", 8193): api.ErrSize, filled("01", 8193): api.ErrSize,
		filled(deepValue, 8192): api.ErrDeep, filled(deepValue, 8193): api.ErrSize, filled(deepType, 8192): api.ErrDeep, filled(deepType, 8193): api.ErrSize,
		deepValue + " 01": api.ErrForm, deepValue + "\"": api.ErrForm, deepType + "\xff": api.ErrForm, deepType + "\x00": api.ErrForm, deepType + " %": api.ErrForm, deepValue + "..": api.ErrForm, deepType + "#😀": api.ErrForm,
		"type A{a:B}#\xff": api.ErrForm, "type A{a:B}#😀": api.ErrForm, "type A{a:B} 1.": api.ErrForm, "type A{a:B} \"\\x\"": api.ErrForm, "\"\\ud83d\" type A{a:B}": api.ErrForm, "\"\n\" type A{a:B}": api.ErrForm, "\"\"\"d\" type A{a:B}": api.ErrForm,
		"\"\\ud83d\\ude00\" type A{a:B}": api.OK, "type A{a:B}#": api.OK, "#\r\"\"\"\n\"\"\"type A{a:B}": api.OK,
	} {
		refusesOrReads(t, want, s)
	}
}

// P8.1: schemas as long as a text may be.
func TestLongTexts(t *testing.T) {
	for piece, count := range map[string]int{"type A{a:B}": 700, "interface A{a:B}": 500, "enum A{B}": 900, "union A=B ": 800, "input A{a:B}": 600} {
		if got, e := sdl.Read(strings.Repeat(piece, count)); e != api.OK || len(got.Defs) != count {
			t.Errorf("%d times %s: %d, %d", count, piece, len(got.Defs), e)
		}
	}
	many := func(s string) string { return strings.Repeat(s, 1000) }
	for s, count := range map[string]func(d api.Def) int{
		"type A implements I" + many("&I") + "{a:B}": func(d api.Def) int { return len(d.Faces) - 1 },
		"type A{" + many("a:B ") + "}":               func(d api.Def) int { return len(d.Fields) },
		"union A=B" + many("|B"):                     func(d api.Def) int { return len(d.Parts) - 1 },
		"enum A{" + many("B ") + "}":                 func(d api.Def) int { return len(d.Parts) },
		"input A{" + many("a:B ") + "}":              func(d api.Def) int { return len(d.Params) },
		"type A{a(" + many("b:C ") + "):D}":          func(d api.Def) int { return len(d.Fields[0].Params) },
		"type A{a:B" + many("@d") + "}":              func(d api.Def) int { return len(d.Fields[0].Dirs) },
		"type A{a:B@d(" + many("b:1 ") + ")}":        func(d api.Def) int { return len(d.Fields[0].Dirs[0].Args) },
		"enum A{" + many("\"\" B ") + "}":            func(d api.Def) int { return len(d.Parts) },
	} {
		if got, e := sdl.Read(s); e != api.OK || len(got.Defs) != 1 || count(got.Defs[0]) != 1000 {
			t.Errorf("%.40s: %d", s, e)
		}
	}
}
