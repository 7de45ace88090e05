package sdl_test

import (
	"maps"
	"slices"
	"strings"
	"testing"

	"seine/api"
	"seine/grammar"
	"seine/sdl"
	"seine/token"
)

// ways are those of the chapter's grammar. A bracket behind a `'` is one of a
// definition, which does not count.
var ways = map[string][]string{
	"schema":      {"definition defs*", "told definition*"},
	"defs*":       {"", "definition defs*", "told definition*"},
	"definition*": {"", "definition definition*"},
	"told":        {"quote? 'schema '{ 'query : name mutation? '}"},
	"mutation?":   {"", "'mutation : name"},
	"definition":  {"quote? kind name faces? '{ field field* '}", "quote? 'union name = bar? name part*", "quote? 'enum name '{ value value* '}", "quote? 'input name '{ param param* '}"},
	"quote?":      {"", "quote"},
	"kind":        {"'type", "'interface"},
	"faces?":      {"", "'implements and? name face*"},
	"and?":        {"", "&"},
	"face*":       {"", "& name face*"},
	"bar?":        {"", "|"},
	"part*":       {"", "| name part*"},
	"value":       {"quote? name-true-false-null"},
	"value*":      {"", "value value*"},
	"field":       {"quote? name params? : type dirs"},
	"field*":      {"", "field field*"},
	"params?":     {"", "( param param* )"},
	"param":       {"quote? name : type default?"},
	"param*":      {"", "param param*"},
	"default?":    {"", "= fixed"},
	"dirs":        {"", "@ name args? dirs"},
	"args?":       {"", "( arg arg* )"},
	"arg":         {"name : fixed"},
	"arg*":        {"", "arg arg*"},
	"fixed":       {"name", "number", "quote", "[ fixed* ]", "{ arg* }"},
	"fixed*":      {"", "fixed fixed*"},
	"type":        {"name must?", "< type > must?"},
	"must?":       {"", "!"},
}

// rules is the chapter's grammar.
var rules = grammar.New(ways)

func mark(s string) api.Token { return api.Token{Kind: api.Punct, S: s} }

func word(s string) api.Token { return api.Token{Kind: api.Word, S: s} }

func tokens(s string) []api.Token {
	l, _ := token.Read(s)
	return l
}

// unquoted leaves out the Quotes that are no values: a value stands in a list, or
// behind a `:` or a `=`.
func unquoted(l []api.Token) []api.Token {
	var out []api.Token
	lists := 0
	for k, t := range l {
		switch {
		case t == mark("["):
			lists++
		case t == mark("]"):
			lists--
		case t.Kind == api.Quote && lists == 0 && (k == 0 || l[k-1] != mark(":") && l[k-1] != mark("=")):
			continue
		}
		out = append(out, t)
	}
	return out
}

// first returns the tokens of the first of several definitions, and the others.
func first(l []api.Token) (def, rest []api.Token) {
	if l[0] == word("union") {
		end := 4
		if l[3] == mark("|") {
			end = 5
		}
		for end < len(l) && l[end] == mark("|") {
			end += 2
		}
		return l[:end], l[end:]
	}
	open := 0
	for k, t := range l {
		switch t {
		case mark("{"), mark("("):
			open++
		case mark("}"), mark(")"):
			open--
		}
		if t == mark("}") && open == 0 {
			return l[:k+1], l[k+1:]
		}
	}
	return l, nil
}

// ordered brings the tokens of a schema into the order in which Print has them,
// without what may precede names; the names of its operations are in front.
func ordered(l []api.Token) []api.Token {
	schema := tokens("schema{query:Query}")
	told := false
	var out []api.Token
	for rest := unquoted(l); len(rest) > 0; {
		var def []api.Token
		def, rest = first(rest)
		if def[0] == word("schema") {
			schema, told = def, true
			continue
		}
		if def[1] == word("Mutation") && !told {
			schema = tokens("schema{query:Query mutation:Mutation}")
		}
		if def[3] == mark("&") || def[3] == mark("|") {
			def = slices.Delete(slices.Clone(def), 3, 4)
		}
		out = append(out, def...)
	}
	return append(slices.Clone(schema), out...)
}

// holds holds what is read of the tokens against the error that it must have and,
// where there is none, what it is and what is printed of it against the tokens.
func holds(t *testing.T, l []api.Token, want api.Errno) {
	t.Helper()
	text, ok := token.Print(l...)
	if !ok {
		t.Fatalf("%+v are not Right", l)
	}
	got, e := sdl.Read(text)
	if e != want || e != api.OK && show(got) != show(api.Schema{}) {
		t.Fatalf("%.300s: the error %d, want %d, and %s", text, e, want, show(got))
	}
	if want != api.OK {
		return
	}
	all := ordered(l)
	if !slices.Equal(tokens(schemaText(got)), all) {
		t.Fatalf("%.300s is read as %s, want %v", text, show(got), all)
	}
	wanted, _ := token.Print(all...)
	out, ok := sdl.Print(got)
	again, e := sdl.Read(out)
	if !ok || !sdl.Right(got) || out != wanted || e != api.OK || show(again) != show(got) {
		t.Fatalf("%.300s is printed as %s, %v, and read as %s, %d", text, out, ok, show(again), e)
	}
}

// pieces are a token of each kind that the grammar knows, and of those it does not.
func pieces() []api.Token {
	return tokens(`a type schema query implements null true { } [ ] ( ) $ : @ = ! ... | & 7 1.5 "type" "{"`)
}

// tails are what may stand behind a wrong token and must not matter: types and
// values that are nested too deep.
func tails() [][]api.Token {
	return [][]api.Token{slices.Repeat([]api.Token{mark("[")}, 20), slices.Repeat([]api.Token{mark("{"), word("a"), mark(":")}, 20)}
}

// P8.1, P8.2 and P8.4: every short text that goes on from some beginnings, held against the grammar.
func TestEveryShortText(t *testing.T) {
	for begins, more := range map[string]int{
		"": 3, "\"a\"": 2, "schema": 3, "schema{query:": 2, "schema{query:a": 3, "schema{query:a mutation:": 2, "schema{query:a}": 2, "enum a{a}schema{query:a}": 2, "schema{query:a mutation:a}": 2, "schema{query:a}enum a{a}": 2,
		"type": 2, "type a": 4, "interface a": 4, "type a implements": 3, "type a implements&": 2, "type a implements a&a": 3, "interface a implements a{": 2, "type a{": 3, "type a{a": 3, "interface a{a(": 3, "type a{a(a:": 2, "type a{a(a:a": 3, "type a{a(a:[a]=7": 2, "type a{a(a:a)": 3, "type a{a:": 3, "type a{a:a": 3, "type a{a:a!": 2, "type a{a:a@a": 2, "type a{a:a@a(": 3, "type a{a:a@a(a:": 2, "type a{a:a@a(a:[7]": 2, "type a{a:a@a(a:{a:": 2, "type a{a:a}": 2,
		"union": 3, "union a": 4, "union a=a": 3, "union a=|a|": 3, "enum": 2, "enum a": 4, "enum a{a": 3, "enum Mutation{a}": 2, "input": 2, "input a": 4, "input a{a:": 3, "input a{a:a": 3, "input a{a:a=": 2, "input a{a:a=[": 2, "input a{a:a=\"a\"": 3, "input a{a:a={a:": 2, "input a{a:a={a:7": 2, "union Mutation=a": 2,
	} {
		count := 0
		for l, e := range rules.Texts("schema", tokens(begins), more, pieces(), tails()...) {
			holds(t, l, e)
			count++
		}
		if count < 50 {
			t.Errorf("%d texts begin with %s", count, begins)
		}
	}
}

// samples are whole texts that have all that the grammar knows.
func samples() []string {
	return []string{
		`"d" schema{query:Q mutation:M} type Q implements &I&J{"d" a("d" x:Int=1 y:[A!]):B! @get(table:"t" arg:"x") @x b:C}`,
		`interface I implements A{a(b:[[C]!]={a:[1.5 "q" null] b:{}} "d" c:D):E @f(g:[true "h" {i:J}]) b:K}union U=|A|B`,
		`"d" enum E{"d" X Y on}input N{"d" a:Int="x" b:N! c:[[[[A!]!]!]!]!}union Mutation=type schema{query:type}enum Mutation{query}`,
		`union U=A interface Mutation{type:input}"d"input type{input:type=type}type implements implements implements{a:b}`,
	}
}

// P8.1, P8.2 and P8.4: samples with each token left out, replaced, doubled or swapped, and with one more; and cut off.
func TestChangedSamples(t *testing.T) {
	for _, text := range samples() {
		l := tokens(text)
		if e := rules.Judge("schema", l); e != api.OK {
			t.Fatalf("%s has the error %d", text, e)
		}
		for changed := range grammar.Changed(l, pieces()) {
			holds(t, changed, rules.Judge("schema", changed))
		}
	}
}

// P8.2: of two wrong places the first one determines the error, for every pair of wrong places.
func TestFirstWrongPlace(t *testing.T) {
	wrong := map[string]api.Errno{
		"$": api.ErrForm, "type a{a:[[[[[": api.ErrDeep, "input a{a:a=" + strings.Repeat("[", 17): api.ErrDeep, "enum a{true": api.ErrForm, "type a{a:a@a(a:" + strings.Repeat("{a:", 17): api.ErrDeep, "input a{a:a=$": api.ErrForm, "union a=\"a\"": api.ErrForm, "input a{a:[[[[[": api.ErrDeep, "schema{query:[[[[[": api.ErrForm, "\"a\"\"a\"": api.ErrForm,
		"type a{a(a:a=" + strings.Repeat("[{a:", 8) + "[": api.ErrDeep, "schema{query:a}schema{query:": api.ErrForm, "type a{}": api.ErrForm,
	}
	for _, one := range slices.Sorted(maps.Keys(wrong)) {
		for _, two := range slices.Sorted(maps.Keys(wrong)) {
			refuses(t, wrong[one], one, one+" "+two, "enum a{a}"+one+two, "schema{query:a}"+one+"}"+two, "\"a\"type a{a:a} "+one+")}"+two)
		}
	}
}
