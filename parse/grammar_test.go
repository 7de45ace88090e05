package parse

import (
	"maps"
	"slices"
	"strings"
	"testing"

	"seine/api"
	"seine/grammar"
	"seine/token"
	"seine/value"
	"seine/wrap"
)

// ways are those of the chapter's grammar.
var ways = map[string][]string{
	"document":    {"definition definition*"},
	"definition*": {"", "definition definition*"},
	"definition":  {"selections", "kind name? variables? fixedDirs selections", "'fragment name-on 'on name fixedDirs selections"},
	"kind":        {"'query", "'mutation"},
	"name?":       {"", "name"},
	"variables?":  {"", "( variable variable* )"},
	"variable*":   {"", "variable variable*"},
	"variable":    {"$ name : type default?"},
	"default?":    {"", "= fixed"},
	"selections":  {"{ selection selection* }"},
	"selections?": {"", "selections"},
	"selection*":  {"", "selection selection*"},
	"selection":   {"name args? dirs selections?", "name : name args? dirs selections?", "... name-on dirs", "... dirs selections", "... 'on name dirs selections"},
	"args?":       {"", "( arg arg* )"},
	"arg*":        {"", "arg arg*"},
	"arg":         {"name : value"},
	"dirs":        {"", "@ name args? dirs"},
	"fixedArgs?":  {"", "( fixedArg fixedArg* )"},
	"fixedArg*":   {"", "fixedArg fixedArg*"},
	"fixedArg":    {"name : fixed"},
	"fixedDirs":   {"", "@ name fixedArgs? fixedDirs"},
	"single":      {"name", "number", "quote"},
	"value":       {"single", "$ name", "[ value* ]", "{ arg* }"},
	"value*":      {"", "value value*"},
	"fixed":       {"single", "[ fixed* ]", "{ fixedArg* }"},
	"fixed*":      {"", "fixed fixed*"},
	"type":        {"name must?", "< type > must?"},
	"must?":       {"", "!"},
}

// rules is the chapter's grammar.
var rules = grammar.New(ways)

func mark(s string) api.Token { return api.Token{Kind: api.Punct, S: s} }

func word(s string) api.Token { return api.Token{Kind: api.Word, S: s} }

// spare is no token of a text: it stands for a part that does not belong to its kind.
var spare = api.Token{Kind: -1}

func writeArgs(l []api.Token, end string, args []api.Member) []api.Token {
	for k, m := range args {
		if k == 0 {
			l = append(l, mark("("))
		}
		v, _ := value.Tokens(m.V)
		l = append(append(l, word(m.Name), mark(":")), v...)
	}
	if len(args) > 0 {
		l = append(l, mark(end))
	}
	return l
}

func writeDirs(l []api.Token, dirs []api.Dir) []api.Token {
	for _, d := range dirs {
		l = writeArgs(append(l, mark("@"), word(d.Name)), ")", d.Args)
	}
	return l
}

func writeSels(l []api.Token, sels []api.Sel) []api.Token {
	l = append(l, mark("{"))
	for _, x := range sels {
		own := api.Sel{Kind: x.Kind, Name: x.Name, Dirs: x.Dirs}
		switch x.Kind {
		case api.Field:
			own.Alias, own.Args, own.Sels = x.Alias, x.Args, x.Sels
			if x.Alias != "" {
				l = append(l, word(x.Alias), mark(":"))
			}
			l = writeArgs(append(l, word(x.Name)), ")", x.Args)
		case api.Spread:
			l = append(l, mark("..."), word(x.Name))
		case api.Inline:
			own.Name, own.On, own.Sels = "", x.On, x.Sels
			l = append(l, mark("..."))
			if x.On != "" {
				l = append(l, word("on"), word(x.On))
			}
		}
		if show(own) != show(x) {
			l = append(l, spare)
		}
		l = writeDirs(l, x.Dirs)
		if len(x.Sels) > 0 || x.Kind == api.Inline {
			l = writeSels(l, x.Sels)
		}
	}
	return append(l, mark("}"))
}

func writeType(l []api.Token, x api.Type) []api.Token {
	s, _ := wrap.Print(x)
	t, _ := token.Read(s)
	return append(l, t...)
}

func writeVars(l []api.Token, vars []api.VarDef) []api.Token {
	for k, v := range vars {
		if k == 0 {
			l = append(l, mark("("))
		}
		l = writeType(append(l, mark("$"), word(v.Name), mark(":")), v.T)
		if v.Has {
			d, _ := value.Tokens(v.Default)
			l = append(append(l, mark("=")), d...)
		} else if show(v.Default) != show(api.Value{}) {
			l = append(l, spare)
		}
	}
	if len(vars) > 0 {
		l = append(l, mark(")"))
	}
	return l
}

// writeDoc returns the tokens of a document, operations first, each with its word.
func writeDoc(d api.Doc) []api.Token {
	var l []api.Token
	for _, op := range d.Ops {
		l = append(l, word([]string{"query", "mutation"}[op.Kind]))
		if op.Name != "" {
			l = append(l, word(op.Name))
		}
		l = writeSels(writeDirs(writeVars(l, op.Vars), op.Dirs), op.Sels)
	}
	for _, f := range d.Frags {
		l = append(l, word("fragment"), word(f.Name), word("on"), word(f.On))
		l = writeSels(writeDirs(l, f.Dirs), f.Sels)
	}
	return l
}

// ordered puts the definitions that the tokens are into the order of writeDoc.
func ordered(l []api.Token) []api.Token {
	var ops, frags []api.Token
	open, begin := 0, 0
	for k, t := range l {
		switch t {
		case mark("("), mark("["), mark("{"):
			open++
		case mark(")"), mark("]"), mark("}"):
			open--
		}
		if open > 0 || t != mark("}") {
			continue
		}
		switch def := l[begin : k+1]; def[0] {
		case word("fragment"):
			frags = append(frags, def...)
		case mark("{"):
			ops = append(append(ops, word("query")), def...)
		default:
			ops = append(ops, def...)
		}
		begin = k + 1
	}
	return append(ops, frags...)
}

// A start is a symbol of the grammar with the function that reads it: its error,
// and the tokens of what it answered, none if that is zero.
type start struct {
	symbol string
	read   func(s string) ([]api.Token, api.Errno)
	whole  func(l []api.Token) []api.Token
}

func ofValue(fixed bool) func(s string) ([]api.Token, api.Errno) {
	return func(s string) ([]api.Token, api.Errno) {
		v, e := Value(s, fixed)
		if e != api.OK && show(v) == show(api.Value{}) {
			return nil, e
		}
		l, _ := value.Tokens(v)
		return l, e
	}
}

func starts() []start {
	same := func(l []api.Token) []api.Token { return l }
	return []start{
		{"document", func(s string) ([]api.Token, api.Errno) {
			d, e := Read(s)
			return writeDoc(d), e
		}, ordered},
		{"value", ofValue(false), same},
		{"fixed", ofValue(true), same},
		{"type", func(s string) ([]api.Token, api.Errno) {
			x, e := Type(s)
			return writeType(nil, x), e
		}, same},
	}
}

// holds holds what is read of the tokens against the error that it must have, and
// against the tokens themselves where there is none.
func (s start) holds(t *testing.T, l []api.Token, want api.Errno) {
	t.Helper()
	text, ok := token.Print(l...)
	if !ok {
		t.Fatalf("%+v are not Right", l)
	}
	var written []api.Token
	if want == api.OK {
		written = s.whole(l)
	}
	if got, e := s.read(text); e != want || !slices.Equal(got, written) {
		t.Fatalf("%s: %.300s: the error %d, want %d, and %+v", s.symbol, text, e, want, got)
	}
}

// pieces are a token of each kind that the grammar knows, and of those it does not.
func pieces() []api.Token {
	l, _ := token.Read(`a on query fragment null true { } [ ] ( ) $ : @ = ! ... | & 7 1.5 "on" "{"`)
	return l
}

// tails are what may stand behind a wrong token and must not matter: values and
// selections that are nested too deep.
func tails() [][]api.Token {
	return [][]api.Token{slices.Repeat([]api.Token{mark("[")}, 20), slices.Repeat([]api.Token{mark("{"), word("a")}, 20)}
}

// P6.1 and P6.2: every short text that goes on from some beginnings, held against the grammar.
func TestEveryShortText(t *testing.T) {
	for _, x := range []struct {
		start  int
		begins string
		more   int
	}{
		{0, "", 4}, {0, "{", 3}, {0, "{a}", 3}, {0, "query", 3}, {0, "mutation a(", 4}, {0, "query($a:", 3}, {0, "query($a:a=", 3}, {0, "query($a:[a!]=[7]", 3}, {0, "query@a(", 3}, {0, "query@a(a:[7]", 3},
		{0, "fragment", 4}, {0, "fragment a on a", 3}, {0, "fragment a on a@a(a:", 2}, {0, "{a(", 3}, {0, "{a(a:", 2}, {0, "{a(a:7", 2}, {0, "{a(a:{a:", 2}, {0, "{a:", 2}, {0, "{a:a(a:7)@a", 2}, {0, "{a@a(a:[", 2}, {0, "{...", 3}, {0, "{...a@a(", 3}, {0, "{...on a", 3}, {0, "{...on a@a(a:", 2}, {0, "{...@a(a:$", 3}, {0, "{a{a", 2}, {0, "{a{a}", 2},
		{1, "", 3}, {1, "[7", 2}, {1, "{a:", 3}, {1, "{a:[", 2}, {2, "", 3}, {2, "[7", 2}, {2, "{a:", 3}, {2, "{a:[", 2}, {3, "", 5}, {3, "[[", 3}, {3, "[a]!", 3},
	} {
		s := starts()[x.start]
		begin, _ := token.Read(x.begins)
		count := 0
		for l, e := range rules.Texts(s.symbol, begin, x.more, pieces(), tails()...) {
			s.holds(t, l, e)
			count++
		}
		if count < 20 {
			t.Errorf("%d texts begin with %s", count, x.begins)
		}
	}
}

// samples are whole texts of each start that have all that the grammar knows.
func samples() map[string][]string {
	return map[string][]string{
		"document": {
			`query Q($x:Int=1 $y:[A!]! $z:[[B]!]={a:[1.5 "q" null] b:{}}) @d @e(f:true g:[E]) {a(x:$x,y:[$y 1])@skip(if:true)@d{b}}`,
			`mutation @m{a} fragment F on T @f(x:{a:[1]}){...G @include(if:$v) ...{a} ... @i{b}} query{on}`,
			`{a:b(v:{b:{} c:[] d:null} w:$x){...on T @d(x:[$x]){c{d:e @f}} ...F} g @h(i:{j:$k})}`,
			`fragment F on on{a(b:9223372036854775808 c:-9223372036854775808)}{query}mutation M{fragment}`,
		},
		"value": {`[1 $a {b:"c" d:[$e E] f:{}} [] null -1.5e3]`, `{a:{b:[$c]} d:true}`},
		"fixed": {`[1 {b:"c" d:[E] f:{}} [] null -1.5e3]`, `{a:{b:[C]} d:true}`},
		"type":  {`[[[[A!]!]!]!]!`, `[[A]]`},
	}
}

// P6.1 and P6.2: samples with each token left out, replaced, doubled or swapped, and with one more; and cut off.
func TestChangedSamples(t *testing.T) {
	for _, s := range starts() {
		for _, text := range samples()[s.symbol] {
			l, _ := token.Read(text)
			if e := rules.Judge(s.symbol, l); e != api.OK {
				t.Fatalf("%s has the error %d", text, e)
			}
			for changed := range grammar.Changed(l, pieces()) {
				s.holds(t, changed, rules.Judge(s.symbol, changed))
			}
		}
	}
}

// P6.2: of two wrong places the first one determines the error, for every pair of wrong places.
func TestFirstWrongPlace(t *testing.T) {
	wrong := map[string]api.Errno{"$": api.ErrForm, "{a " + strings.Repeat("{a ", 16): api.ErrDeep, "{...on": api.ErrForm, "{a(b:" + strings.Repeat("[", 16): api.ErrDeep, "query($a:[[[[[": api.ErrDeep, "query($a:a=" + strings.Repeat("{a:", 17): api.ErrDeep, "fragment on": api.ErrForm, "query($a:a=$": api.ErrForm, "{a(b:!": api.ErrForm}
	for _, first := range slices.Sorted(maps.Keys(wrong)) {
		for _, second := range slices.Sorted(maps.Keys(wrong)) {
			refuses(t, wrong[first], first, first+" "+second, "{a} "+first+second, "fragment F on T{a}"+first+"}"+second)
		}
	}
}
