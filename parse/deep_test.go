package parse

import (
	"strings"
	"testing"

	"seine/api"
	"seine/every"
	"seine/token"
)

// A frame opens a bracket at its end, and closes it.
type frame struct{ open, close string }

// selFrames stand where a selection may, and a selection stands within them.
func selFrames() []frame {
	return []frame{{"a{", "}"}, {"b a:c(d:{e:[1]})@f(g:[[$h]]){", "}i"}, {"...{", "}"}, {"...on T@d(e:{}){", "}...F"}, {"a{b{c}}...@d{", "}"}}
}

// nested puts s into so many frames, which take turns, the last one innermost.
func nested(n int, s string, l ...frame) string {
	opens, closes := "", ""
	for k := range n {
		f := l[k%len(l)]
		opens += f.open
		closes = f.close + closes
	}
	return opens + s + closes
}

// deepIs says which error what has n brackets within one another has.
func deepIs(n int) api.Errno {
	if n > 16 {
		return api.ErrDeep
	}
	return api.OK
}

// refusesOrReads holds the error of Read against the wanted one.
func refusesOrReads(t *testing.T, want api.Errno, s string) {
	t.Helper()
	if got, e := Read(s); e != want || e != api.OK && show(got) != show(api.Doc{}) {
		t.Errorf("Read(%s): the error %d, want %d", s, e, want)
	}
}

// heads are what may stand ahead of selections, also that of earlier definitions.
func heads() []string {
	return []string{"", "query", "query Q($x:[T]=[[1]])@d(e:[[2]])", "mutation", "fragment F on T@d(e:[[2]])", "{a{b}}", "fragment F on T{a}"}
}

// P6.2: selections nested in MaxDeep others and in fewer, whatever they are of.
func TestDeepSelections(t *testing.T) {
	for _, head := range heads() {
		for _, open := range []string{"a{", "...{", "...on T{", "...@d{", "a:b@d(e:$f){"} {
			for n := range 20 {
				refusesOrReads(t, deepIs(1+n), head+"{"+nested(n, "x", frame{open, "}"})+"}")
			}
			refusesOrReads(t, api.ErrForm, head+"{"+strings.Repeat(open, 15))
			refusesOrReads(t, api.ErrDeep, head+"{"+strings.Repeat(open, 16))
			refusesOrReads(t, api.ErrDeep, head+"{"+strings.Repeat(open, 600))
		}
	}
}

// P6.2: selections of several kinds within one another, held against the grammar.
func TestDeepSelectionsOfAllKinds(t *testing.T) {
	for l := range every.List(2, selFrames()...) {
		for n := 0; n <= 20 && len(l) > 0; n++ {
			for _, head := range heads() {
				s := head + "{" + nested(n, "x", l...) + "}"
				tokens, _ := token.Read(s)
				refusesOrReads(t, rules.Judge("document", tokens), s)
			}
		}
	}
}

// valueFrames are lists of frames that stand where a value may, and a value stands
// within each of them; what is beside it is nested no deeper.
func valueFrames() [][]frame {
	return [][]frame{{{"[", "]"}}, {{"{a:", "}"}}, {{"[", "]"}, {"{a:", "}"}}, {{"[1 ", " 2]"}, {"{a:1 b:", " c:2}"}}}
}

// P6.2: values nested in so many selections and values.
func TestDeepValues(t *testing.T) {
	for _, l := range valueFrames() {
		for _, inner := range []string{"1", "\"[\"", "E", "$x"} {
			for sels := range 17 {
				for n := range 19 {
					v := nested(n, inner, l...)
					for _, x := range []frame{{"{a(b:", ")}"}, {"{a@d(b:", ")}"}, {"{...F@d(b:", ")}"}, {"{a@d(c:1)@d(c:1 b:", ")}"}} {
						refusesOrReads(t, deepIs(sels+1+n), nested(sels, x.open+v+x.close, frame{"{a", "}"}))
					}
					for _, x := range []frame{{"{...on T@d(b:", "){c}}"}, {"{...@d(b:", "){c}}"}, {"{a(b:", "){c}}"}} {
						refusesOrReads(t, deepIs(sels+1+max(n, 1)), nested(sels, x.open+v+x.close, frame{"{a", "}"}))
					}
				}
			}
		}
	}
}

// P6.2: values nested in values alone.
func TestDeepFixedValues(t *testing.T) {
	for _, l := range valueFrames() {
		for n := range 19 {
			v := nested(n, "1", l...)
			for _, form := range []string{"query($x:T=?){a}", "query($x:T=[[1]] $y:[[[[T]]]]=?){a}", "query@d(b:?){a}", "mutation@c@d(a:[[1]] b:?){a}", "fragment F on T@d(b:?){a}", "{a{b}}query($x:T=?){a}"} {
				refusesOrReads(t, deepIs(n), strings.ReplaceAll(form, "?", v))
			}
			for _, fixed := range []bool{false, true} {
				if x, e := Value(v, fixed); e != deepIs(n) || e != api.OK && show(x) != show(api.Value{}) {
					t.Errorf("Value(%s, %v): the error %d, want %d", v, fixed, e, deepIs(n))
				}
			}
		}
	}
}

// P6.2: brackets that are closed again do not count, and other brackets never do.
func TestNotDeep(t *testing.T) {
	list, sels := nested(16, "", frame{"[", "]"}), nested(16, "", frame{"{a", "}"})
	less := list[1 : len(list)-1]
	for _, s := range []string{
		"{a(b:" + less + " c:" + less + "){d}e(f:" + less + ")" + sels[2:len(sels)-1] + "}",
		"query($x:[[[[T]]]]=" + list + "$y:[[[[T]]]]=" + list + ")@d(e:" + list + "f:" + list + ")" + sels,
		strings.Repeat(sels, 20),
		"fragment F on T@d(e:" + list + ")" + sels + "mutation@d(e:" + list + ")" + sels,
		"{a" + strings.Repeat("@d(e:1)", 40) + strings.Repeat(" b(c:[1]){d}", 40) + "}",
	} {
		refusesOrReads(t, api.OK, s)
	}
}

// P6.2: where a bracket may not stand at all it is of no form, however deep it is.
func TestDeepElsewhere(t *testing.T) {
	sels := strings.Repeat("{a", 16)
	value := "{a(b:" + strings.Repeat("[", 15)
	object := "{a(b:" + strings.Repeat("{c:", 15)
	refuses(t, api.ErrForm, sels+"[", sels+":{", sels+"@{", sels+"@d(b{", sels+"(b[", sels+"(b:1{", sels+"(b:1[", sels+"(b:$[", sels+"...F{", sels+"...on{", sels+"...[", sels+" b:{", sels+" \"{\"", sels+" \"[\"", sels+"!", sels+"(", sels,
		value+"$[", value+"$a)", value+"!", value+":[", value+"1:[", value, object+"1[", object+"1{", object+"1 d{", object+"1 d[", object+"}{", object, "{a(b:"+strings.Repeat("{c:", 14)+"{{", "{a(b:"+strings.Repeat("{c:", 14)+"{[",
		"{a "+strings.Repeat("[", 20), "{a(b "+strings.Repeat("{", 20), "{"+strings.Repeat("{", 20), strings.Repeat("[", 20), "query"+strings.Repeat("[", 20), "query Q:"+strings.Repeat("{", 20), "{a}"+strings.Repeat("[", 20), "fragment F on "+strings.Repeat("{", 20))
	refuses(t, api.ErrDeep, sels+"{", sels+"{{", sels+"...{", sels+"...on T{", sels+"...@d{", sels+"@d{", sels+"(b:[", sels+"(b:{", sels+"(b:1 c:{", sels+"@d(b:[", sels+"...F@d(b:{", sels+" c:d{",
		value+"[", value+"{", value+"1[", value+"$a{", value+"[!", value+strings.Repeat("]", 15)+"c:"+strings.Repeat("[", 16), object+"[", object+"{", object+"[}", object+"1 d:{", object+"1 d:[",
		"query($x:T="+strings.Repeat("[", 17)+"$", "query@d(e:"+strings.Repeat("[", 17)+"$a", "{a}{a(b:"+strings.Repeat("[", 16), sels+strings.Repeat("}", 15)+" b"+strings.Repeat("{b", 16))
}

// P6.2: lists of types nested in MaxLists others and in fewer, with `!` at every place.
func TestDeepTypes(t *testing.T) {
	for n := range 9 {
		want := api.OK
		if n > 4 {
			want = api.ErrDeep
		}
		for bang := range 2 << n {
			s := "Int"
			for k := range n + 1 {
				if k > 0 {
					s = "[" + s + "]"
				}
				if bang>>(n-k)&1 == 1 {
					s += "!"
				}
			}
			made := api.Type{}
			if want == api.OK {
				made = typ("Int", n, bang)
			}
			if got, e := Type(s); got != made || e != want {
				t.Errorf("Type(%s) = %v, %d, want %v, %d", s, got, e, made, want)
			}
			for _, form := range []string{"query($x:?){a}", "query($x:[[[[T]]]]! $y:?=[[1]]){a}", "{a{b(c:[[1]])}}mutation M($x:?=1 $y:T){a}"} {
				refusesOrReads(t, want, strings.ReplaceAll(form, "?", s))
			}
		}
	}
	for s, want := range map[string]api.Errno{
		"[[[[": api.ErrForm, "[[[[[": api.ErrDeep, "[[[[[[": api.ErrDeep, "[[[[[1": api.ErrDeep, "[[[[1[": api.ErrForm, "[[[[a[": api.ErrForm, "[[[[a]]]][": api.ErrForm, "[a][[[[[": api.ErrForm, "![[[[[": api.ErrForm, "[[[[![": api.ErrForm, "[[[[{": api.ErrForm, "[[[[\"[\"": api.ErrForm, "[[[[a]]]]]": api.ErrForm, "a[[[[[": api.ErrForm, strings.Repeat("[", 8192): api.ErrDeep,
	} {
		if got, e := Type(s); got != (api.Type{}) || e != want {
			t.Errorf("Type(%.40s) = %v, %d, want %d", s, got, e, want)
		}
		refuses(t, want, "query($x:"+s[:min(len(s), 8000)])
	}
}

// P6.2: an error of token.Read comes first, wherever it stands.
func TestErrorsOfTokens(t *testing.T) {
	value := func(s string) api.Errno {
		v, e := Value(s, len(s)%2 == 0)
		if e != api.OK && show(v) != show(api.Value{}) {
			t.Errorf("Value(%.40q) = %s, %d", s, show(v), e)
		}
		return e
	}
	kind := func(s string) api.Errno {
		x, e := Type(s)
		if e != api.OK && x != (api.Type{}) {
			t.Errorf("Type(%.40q) = %v, %d", s, x, e)
		}
		return e
	}
	filled := func(s string, n int) string { return s + strings.Repeat(" ", n-len(s)) }
	deepSels, deepValue := strings.Repeat("{a", 17), strings.Repeat("[", 17)
	for _, x := range []struct {
		doc, val, typ string
		want          api.Errno
	}{
		{filled("{a}", 8192), filled("1", 8192), filled("a", 8192), api.OK},
		{filled("{a}", 8193), filled("1", 8193), filled("a", 8193), api.ErrSize},
		{filled("{a}", 1<<20), filled("1", 1<<20), filled("a", 1<<20), api.ErrSize},
		{filled(")", 8193), filled(")", 8193), filled(")", 8193), api.ErrSize},
		{filled(")\xff", 8193), filled("01", 8193), filled("\"", 8193), api.ErrSize},
		{filled(deepSels, 8193), filled(deepValue, 8193), filled(deepValue, 8193), api.ErrSize},
		{filled(deepSels, 8192), filled(deepValue, 8192), filled(deepValue, 8192), api.ErrDeep},
		{deepSels, deepValue, deepValue, api.ErrDeep},
		{deepSels + " 01", deepValue + "01", deepValue + " 1a", api.ErrForm},
		{deepSels + "\"", deepValue + "\"\n\"", deepValue + "\"\"\"", api.ErrForm},
		{deepSels + "\xff", deepValue + "\x00", deepValue + "#😀", api.ErrForm},
		{deepSels + ".", deepValue + "%", deepValue + "..", api.ErrForm},
		{"{a}#\xff", "1#\x00", "a#😀", api.ErrForm},
		{"{a} 1.", "1\"\\x\"", "a -", api.ErrForm},
		{"{a(b:\"\\ud83d\")}", "\"\\ud83d\"", "a?", api.ErrForm},
	} {
		refusesOrReads(t, x.want, x.doc)
		if v, k := value(x.val), kind(x.typ); v != x.want || k != x.want {
			t.Errorf("Value(%.40q): %d, Type(%.40q): %d, want %d", x.val, v, x.typ, k, x.want)
		}
	}
}

// P6.1: a document, a value and a series of types as long as a text may be.
func TestLongTexts(t *testing.T) {
	for piece, count := range map[string]int{"{a}": 2700, "query{a}": 1000, "fragment F on T{a}": 400} {
		d, e := Read(strings.Repeat(piece, count))
		if e != api.OK || len(d.Ops)+len(d.Frags) != count {
			t.Errorf("%d times %s: %d operations, %d fragments, %d", count, piece, len(d.Ops), len(d.Frags), e)
		}
	}
	d, e := Read("query(" + strings.Repeat("$a:B ", 800) + ")" + strings.Repeat("@d ", 300) + "{" + strings.Repeat("a ", 1000) + "}")
	if e != api.OK || len(d.Ops) != 1 || len(d.Ops[0].Vars) != 800 || len(d.Ops[0].Dirs) != 300 || len(d.Ops[0].Sels) != 1000 {
		t.Errorf("a long operation: %d", e)
	}
	for _, s := range []string{"[" + strings.Repeat("1 ", 4000) + "]", "{" + strings.Repeat("a:1 ", 2000) + "}"} {
		if v, e := Value(s, true); e != api.OK || len(v.L)/4000+len(v.M)/2000 != 1 {
			t.Errorf("a long value: %d and %d, %d", len(v.L), len(v.M), e)
		}
	}
}
