package syntax_test

import (
	"slices"
	"strings"
	"testing"

	"seine/api"
	"seine/syntax"
	"seine/token"
)

func one(r *syntax.Reader) api.Token { return r.Take() }

// Only a Refusal becomes an error, with nothing beside it; whatever else a function
// panics with goes on.
func TestPanics(t *testing.T) {
	for _, x := range []any{"other", api.ErrForm, struct{ E api.Errno }{api.ErrForm}} {
		func() {
			defer func() {
				if got := recover(); got != x {
					t.Errorf("a panic with %v became %v", x, got)
				}
			}()
			syntax.Whole("a", func(r *syntax.Reader) int { panic(x) })
		}()
	}
	if got, e := syntax.Whole("a", func(r *syntax.Reader) int { panic(syntax.Refusal{E: api.ErrRange}) }); got != 0 || e != api.ErrRange {
		t.Errorf("a refusal became %v, %d", got, e)
	}
}

// Whole reads all the tokens of a text, or none.
func TestWhole(t *testing.T) {
	for s, want := range map[string]api.Errno{"a": api.OK, "": api.ErrForm, "a b": api.ErrForm, "1.": api.ErrForm, strings.Repeat(" ", 8193): api.ErrSize} {
		got, e := syntax.Whole(s, one)
		if e != want || e == api.OK && got != (api.Token{Kind: api.Word, S: "a"}) || e != api.OK && got != (api.Token{}) {
			t.Errorf("Whole(%.20q) = %v, %d, want %d", s, got, e, want)
		}
	}
}

// The methods of a Reader, in the order of the tokens.
func TestReader(t *testing.T) {
	var names []string
	_, e := syntax.Whole("a ( b c ) \"a\" ! d", func(r *syntax.Reader) int {
		if r.At(api.Punct, "a") || r.At(api.Word, "b") || !r.At(api.Word, "a") || !r.AtKind(api.Word) || r.AtKind(api.Punct) || r.Skip(api.Quote, "a") || !r.Skip(api.Word, "a") {
			t.Error("the first token")
		}
		r.Need(api.Punct, "(")
		names = syntax.Series(r, ")", (*syntax.Reader).Name)
		if r.At(api.Word, "a") || r.Take() != (api.Token{Kind: api.Quote, S: "a"}) || r.Ended() {
			t.Error("the text")
		}
		r.Need(api.Punct, "!")
		names = append(names, r.Name())
		if !r.Ended() || r.At(api.Word, "d") || r.AtKind(api.Word) || r.Skip(api.Word, "d") {
			t.Error("the end")
		}
		return 0
	})
	if e != api.OK || !slices.Equal(names, []string{"b", "c", "d"}) {
		t.Errorf("%v, %d", names, e)
	}
	for s, read := range map[string]func(r *syntax.Reader){
		"a":    func(r *syntax.Reader) { r.Need(api.Word, "b") },
		"\"a":  func(r *syntax.Reader) {},
		"\"\"": func(r *syntax.Reader) { r.Name() },
		"b":    func(r *syntax.Reader) { r.Take(); r.Name() },
		"!":    func(r *syntax.Reader) { r.Take(); r.Take() },
		"c )":  func(r *syntax.Reader) { syntax.Series(r, "]", (*syntax.Reader).Name) },
		")":    func(r *syntax.Reader) { syntax.Series(r, ")", (*syntax.Reader).Name) },
		"c":    func(r *syntax.Reader) { syntax.Series(r, ")", (*syntax.Reader).Name) },
		"(":    func(r *syntax.Reader) { r.Enter("{") },
	} {
		if _, e := syntax.Whole(s, func(r *syntax.Reader) int { read(r); return 0 }); e != api.ErrForm {
			t.Errorf("%s: %d", s, e)
		}
	}
}

// Brackets that are entered and not left count together, whatever they are.
func TestEnter(t *testing.T) {
	read := func(n int, s string) api.Errno {
		_, e := syntax.Whole(strings.Repeat("{", n)+s, func(r *syntax.Reader) api.Value {
			for range n {
				r.Enter("{")
			}
			for range n / 2 {
				r.Leave()
			}
			return r.Value(true)
		})
		return e
	}
	for n := range 17 {
		left := 16 - n + n/2
		if e := read(n, strings.Repeat("[", left)+strings.Repeat("]", left)); e != api.OK {
			t.Errorf("%d brackets in %d: %d", left, n, e)
		}
		if e := read(n, strings.Repeat("[", left+1)); e != api.ErrDeep {
			t.Errorf("%d brackets in %d: %d", left+1, n, e)
		}
	}
	if e := read(0, strings.Repeat("[", 16)+"1"); e != api.ErrForm {
		t.Errorf("no end: %d", e)
	}
}

// What is written is what is read.
func TestWriter(t *testing.T) {
	const params = "a : B b : [ [ C ! ] ] ! = { d : [ 1 \"e\" ] } c : D = null"
	const dirs = "@ f @ g ( h : E i : 1.5 )"
	var w syntax.Writer
	_, e := syntax.Whole(params+" ) "+dirs, func(r *syntax.Reader) int {
		for _, p := range syntax.Series(r, ")", (*syntax.Reader).Param) {
			if !syntax.RightParam(p) {
				t.Errorf("%+v is not Right", p)
			}
			w.Param(p)
		}
		w.Punct(")")
		l := r.Directives(true)
		if !syntax.All(l, syntax.Outside().Directive) {
			t.Errorf("%+v are not Right", l)
		}
		w.Directives(l)
		return 0
	})
	s, ok := w.Text()
	all, _ := token.Read(s)
	if e != api.OK || !ok || s != params+" ) "+dirs || !slices.Equal(w.Tokens(), all) {
		t.Errorf("%s, %v, %d", s, ok, e)
	}
	w.Words(strings.Repeat("a", 8191-len(s)))
	if s, ok := w.Text(); !ok || len(s) != 8192 {
		t.Errorf("%d bytes, %v", len(s), ok)
	}
	w.Punct("!")
	if s, ok := w.Text(); ok || s != "" {
		t.Errorf("%d bytes, %v", len(s), ok)
	}
}

// A value has to be fixed where the place is, and has to fit into its brackets.
func TestPlace(t *testing.T) {
	variable := api.Value{Kind: api.List, L: []api.Value{{Kind: api.Var, S: "a"}}}
	deep := api.Value{Kind: api.Int}
	for n := range 20 {
		for open := range 20 {
			p := syntax.Place{Deep: open}
			d := api.Dir{Name: "d", Args: []api.Member{{Name: "x"}, {Name: "y", V: deep}}}
			if want := n+open <= 16; p.Value(deep) != want || p.Directive(d) != want || p.Argument(d.Args[1]) != want {
				t.Errorf("%d brackets in %d: %v", n, open, !want)
			}
		}
		deep = api.Value{Kind: api.List, L: []api.Value{deep}}
	}
	for _, fixed := range []bool{false, true} {
		p := syntax.Place{Fixed: fixed}
		if p.Value(variable) == fixed || !p.Value(api.Value{}) || p.Value(api.Value{Kind: -1}) || p.Argument(api.Member{Name: "1"}) || p.Directive(api.Dir{}) {
			t.Errorf("fixed: %v", fixed)
		}
	}
	if !syntax.NameOrNone("") || !syntax.NameOrNone("a") || syntax.NameOrNone("1") {
		t.Error("names")
	}
	if !syntax.All(nil, syntax.NameOrNone) || syntax.All([]string{"a", "1"}, syntax.NameOrNone) {
		t.Error("all")
	}
}
