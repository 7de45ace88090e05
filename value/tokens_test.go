package value

import (
	"fmt"
	"reflect"
	"slices"
	"strconv"
	"strings"
	"testing"

	"seine/api"
	"seine/every"
	"seine/token"
)

// back reads a value from the beginning of tokens, as a document has it, and
// returns the tokens behind it.
func back(l []api.Token) (api.Value, []api.Token) {
	first, rest := l[0], l[1:]
	switch first.Kind {
	case api.Digits:
		if n, err := strconv.ParseInt(first.S, 10, 64); err == nil {
			return Int(n), rest
		}
		return single(api.Num, first.S), rest
	case api.Point:
		return single(api.Num, first.S), rest
	case api.Quote:
		return Text(first.S), rest
	case api.Word:
		if v, is := map[string]api.Value{"null": {}, "false": truthOf(0), "true": truthOf(1)}[first.S]; is {
			return v, rest
		}
		return single(api.Enum, first.S), rest
	}
	switch first.S {
	case "$":
		return single(api.Var, rest[0].S), rest[1:]
	case "[":
		return backList(rest)
	case "{":
		return backMap(rest)
	}
	panic("no value begins with " + first.S)
}

func backList(rest []api.Token) (api.Value, []api.Token) {
	var x api.Value
	out := list()
	for rest[0].S != "]" || rest[0].Kind != api.Punct {
		x, rest = back(rest)
		out.L = append(out.L, x)
	}
	return out, rest[1:]
}

func backMap(rest []api.Token) (api.Value, []api.Token) {
	var x api.Value
	out := mapped()
	for rest[0].S != "}" || rest[0].Kind != api.Punct {
		name := rest[0].S
		if rest[0].Kind != api.Word || rest[1] != (api.Token{Kind: api.Punct, S: ":"}) {
			panic("no member begins with " + name)
		}
		x, rest = back(rest[2:])
		out.M = append(out.M, member(name, x))
	}
	return out, rest[1:]
}

// tokensAre holds Tokens against the tokens of a text.
func tokensAre(t *testing.T, v api.Value, text string) {
	t.Helper()
	want, e := token.Read(text)
	got, ok := Tokens(v)
	if e != api.OK || !ok || !slices.Equal(got, want) {
		t.Errorf("Tokens(%.200s) = %+v, %v, want those of %s", fmt.Sprintf("%+v", v), got, ok, text)
	}
}

// P5.3: the tokens of single values.
func TestTokensSingles(t *testing.T) {
	for text, v := range map[string]api.Value{
		"null": {}, "false": truthOf(0), "true": truthOf(1),
		"0": Int(0), "1": Int(1), "-1": Int(-1), "2147483648": Int(1 << 31), "9223372036854775807": Int(1<<63 - 1), "-9223372036854775808": Int(-1 << 63),
		"1.50": single(api.Num, "1.50"), "-0.0": single(api.Num, "-0.0"), "1E+05": single(api.Num, "1E+05"), "9223372036854775808": single(api.Num, "9223372036854775808"), "-9223372036854775809": single(api.Num, "-9223372036854775809"),
		`""`: Text(""), `"a"`: Text("a"), `"null"`: Text("null"), `"1"`: Text("1"), `"\"\\\n\u0000é\ud83d\ude00"`: Text("\"\\\n\x00é😀"),
		"E": single(api.Enum, "E"), "nulls": single(api.Enum, "nulls"), "_9": single(api.Enum, "_9"),
		"$ a": single(api.Var, "a"), "$ null": single(api.Var, "null"), "$true": single(api.Var, "true"),
	} {
		tokensAre(t, v, text)
	}
	for _, x := range []struct {
		v    api.Value
		want []api.Token
	}{
		{single(api.Num, "1.0"), []api.Token{{Kind: api.Point, S: "1.0"}}},
		{single(api.Num, "1e5"), []api.Token{{Kind: api.Point, S: "1e5"}}},
		{single(api.Num, "9223372036854775808"), []api.Token{{Kind: api.Digits, S: "9223372036854775808"}}},
		{Int(-7), []api.Token{{Kind: api.Digits, S: "-7"}}},
		{Text("$a"), []api.Token{{Kind: api.Quote, S: "$a"}}},
		{single(api.Var, "a"), []api.Token{{Kind: api.Punct, S: "$"}, {Kind: api.Word, S: "a"}}},
	} {
		if got, ok := Tokens(x.v); !ok || !slices.Equal(got, x.want) {
			t.Errorf("Tokens(%+v) = %+v, %v", x.v, got, ok)
		}
	}
}

// P5.3: the tokens of Lists and of Maps.
func TestTokensNested(t *testing.T) {
	for _, x := range []struct {
		v    api.Value
		text string
	}{
		{list(Int(1), single(api.Var, "a")), "[1 $a]"},
		{list(), "[]"},
		{api.Value{Kind: api.List, L: []api.Value{}, M: []api.Member{}}, "[]"},
		{mapped(), "{}"},
		{list(list(), mapped(), list(list())), "[[] {} [[]]]"},
		{mapped(member("a", Int(1))), "{a: 1}"},
		{mapped(member("b", Int(1)), member("a", Int(2)), member("b", Int(3))), "{b: 1 a: 2 b: 3}"},
		{mapped(member("true", truthOf(0)), member("null", api.Value{}), member("on", single(api.Enum, "on"))), "{true: false null: null on: on}"},
		{mapped(member("a", list(mapped(member("b", single(api.Var, "b"))), Text("]"))), member("c", mapped())), `{a: [{b: $b} "]"] c: {}}`},
		{deep(Int(1), 16, frames()[0]), strings.Repeat("[", 16) + "1" + strings.Repeat("]", 16)},
		{deep(Int(1), 16, frames()[3]), strings.Repeat("{a:", 16) + "1" + strings.Repeat("}", 16)},
	} {
		tokensAre(t, x.v, x.text)
	}
}

// P5.3: there are no tokens of a value that is not Plain.
func TestTokensOfNone(t *testing.T) {
	none := append(bads(), mapped(member("", Int(1))), mapped(member("a b", Int(1))), mapped(member("é", Int(1))), mapped(member("\xff", Int(1))))
	for _, v := range none {
		for l := range every.List(2, frames()...) {
			if got, ok := Tokens(framed(v, l...)); len(got) != 0 || ok {
				t.Errorf("Tokens(%+v) = %+v, %v", framed(v, l...), got, ok)
			}
		}
	}
	for _, n := range []int{17, 18, 4096} {
		for _, f := range frames() {
			if got, ok := Tokens(deep(Int(1), n, f)); len(got) != 0 || ok {
				t.Errorf("Tokens of the Depth %d: %d, %v", n, len(got), ok)
			}
		}
	}
}

// plainValues are values that may occur in a document, single and nested.
func plainValues() []api.Value {
	out := plains()
	for l := range every.List(2, plains()...) {
		out = append(out, list(slices.Clone(l)...))
	}
	var members []api.Member
	for _, v := range []api.Value{{}, Int(0), truthOf(1), Text("a"), single(api.Var, "a"), single(api.Enum, "a"), list(), mapped(), list(Int(1)), mapped(member("a", Int(1)))} {
		members = append(members, member("a", v), member("b", v), member("null", v))
	}
	for l := range every.List(3, members...) {
		out = append(out, mapped(slices.Clone(l)...))
	}
	for l := range every.List(5, frames()...) {
		out = append(out, framed(Text("end"), l...))
	}
	return out
}

// P5.3 and P5.4: a Plain value is Good, its tokens are Right, and they are read back as the value.
func TestTokensBack(t *testing.T) {
	for _, v := range plainValues() {
		l, ok := Tokens(v)
		if !ok || !Plain(v) || !Good(v) {
			t.Fatalf("%+v: Tokens %v, Plain %v, Good %v", v, ok, Plain(v), Good(v))
		}
		for _, x := range l {
			if !token.Right(x) {
				t.Fatalf("Tokens(%+v) has %+v", v, x)
			}
		}
		got, rest := back(l)
		if !sameOf(got, v) || !Same(got, v) || len(rest) != 0 {
			t.Fatalf("Tokens(%+v) = %+v, which is %+v and %+v", v, l, got, rest)
		}
	}
}

// P5.4: different Plain values have different tokens; no value is Plain and not Good.
func TestTokensDiffer(t *testing.T) {
	held := map[string]api.Value{}
	for _, v := range append(plainValues(), many()...) {
		l, ok := Tokens(v)
		if ok != Plain(v) || ok && !Good(v) {
			t.Fatalf("%+v: Tokens %v, Plain %v, Good %v", v, ok, Plain(v), Good(v))
		}
		if !ok {
			continue
		}
		text := fmt.Sprintf("%#v", l)
		if other, is := held[text]; is && !sameOf(other, v) {
			t.Fatalf("%+v and %+v have the tokens %s", v, other, text)
		}
		held[text] = v
	}
}

// P5.2: the Vars of a Plain value are the names behind `$` among its tokens.
func TestVarsOfTokens(t *testing.T) {
	for _, v := range plainValues() {
		l, _ := Tokens(v)
		var want []string
		for k, x := range l {
			if k > 0 && l[k-1] == (api.Token{Kind: api.Punct, S: "$"}) && !slices.Contains(want, x.S) {
				want = append(want, x.S)
			}
		}
		if got := Vars(v); !slices.Equal(got, want) {
			t.Fatalf("Vars(%+v) = %v, want %v", v, got, want)
		}
	}
}

// R4: no call changes what it is given, nor what stands behind its lists' ends.
func TestArgumentsStay(t *testing.T) {
	given := func() ([]api.Value, []api.Member) {
		inner := []api.Value{single(api.Var, "a"), Int(1), Text("beyond")}
		members := []api.Member{member("x", list(inner[:2]...)), member("y", Int(2)), member("beyond", Int(3))}
		return []api.Value{mapped(members[:2]...), single(api.Var, "b"), Int(4)}, members
	}
	l, m := given()
	wantL, wantM := given()
	v := list(l[:2]...)
	Good(v)
	Plain(v)
	Depth(v)
	Same(v, copied(v, true))
	Get("y", m[:2]...)
	Vars(v)
	Tokens(v)
	if !reflect.DeepEqual(l, wantL) || !reflect.DeepEqual(m, wantM) || l[0].M[:3][2].Name != "beyond" || m[0].V.L[:3][2].S != "beyond" {
		t.Errorf("the arguments became %+v and %+v", l, m)
	}
}

// R4: each answer is a list of its own, up to its capacity.
func TestAnswersAreNewMemory(t *testing.T) {
	v := list(single(api.Var, "a"), mapped(member("b", single(api.Var, "b"))), single(api.Var, "c"))
	names, tokens := Vars(v), func() []api.Token { l, _ := Tokens(v); return l }()
	names2, tokens2 := slices.Clone(names), slices.Clone(tokens)
	for range 2 {
		again := Vars(v)
		l, _ := Tokens(v)
		for k := range again[:cap(again)] {
			again[:cap(again)][k] = "other"
		}
		for k := range l[:cap(l)] {
			l[:cap(l)][k] = api.Token{Kind: api.Quote, S: "other"}
		}
	}
	if !slices.Equal(names, names2) || !slices.Equal(tokens, tokens2) || !slices.Equal(Vars(v), names) {
		t.Errorf("the answers became %q and %+v", names, tokens)
	}
}
