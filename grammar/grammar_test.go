package grammar_test

import (
	"maps"
	"slices"
	"strings"
	"testing"

	"seine/api"
	"seine/grammar"
	"seine/token"
)

func ways() map[string][]string {
	return map[string][]string{
		"list":   {"[ one* ]", "{ one* }", "'{ 'a list '}"},
		"one*":   {"", "one one*"},
		"one":    {"list", "name-a-b", "number", "quote", "'a !"},
		"nested": {"name", "< nested >"},
	}
}

func tokens(s string) []api.Token {
	l, _ := token.Read(s)
	return l
}

// Judge knows each kind of token, brackets that count and brackets that do not.
func TestJudge(t *testing.T) {
	g := grammar.New(ways())
	for s, want := range map[string]api.Errno{
		"[]": api.OK, "{}": api.OK, "[c]": api.OK, "[c 1 1.5 \"a\" {}]": api.OK, "[a!]": api.OK, "[a! c a!]": api.OK, "{a{}}": api.OK, "{a[c]}": api.OK, "{a{a{a[]}}}": api.OK,
		"": api.ErrForm, "[": api.ErrForm, "[]]": api.ErrForm, "[}": api.ErrForm, "[a]": api.ErrForm, "[b]": api.ErrForm, "[b!]": api.ErrForm, "[c!]": api.ErrForm, "[!]": api.ErrForm, "[\"a\"!]": api.ErrForm, "{a}": api.ErrForm, "{a[]": api.ErrForm, "{b[]}": api.ErrForm, "list": api.ErrForm, "<": api.ErrForm,
		strings.Repeat("[", 16) + strings.Repeat("]", 16): api.OK, strings.Repeat("[", 17): api.ErrDeep, strings.Repeat("[{", 8) + "[": api.ErrDeep, strings.Repeat("[", 16) + "!": api.ErrForm, strings.Repeat("[]", 17): api.ErrForm, "[" + strings.Repeat("[{}]", 20) + "]": api.OK,
	} {
		if got := g.Judge("list", tokens(s)); got != want {
			t.Errorf("%s: %d, want %d", s, got, want)
		}
	}
	for s, want := range map[string]api.Errno{"a": api.OK, "[[[[a]]]]": api.OK, "[[[[[": api.ErrDeep, "[[[[]": api.ErrForm, "[a": api.ErrForm, "{a}": api.ErrForm} {
		if got := g.Judge("nested", tokens(s)); got != want {
			t.Errorf("%s: %d, want %d", s, got, want)
		}
	}
	own := ways()
	h := grammar.New(own)
	own["one"][1] = "other"
	clear(own)
	if h.Judge("list", tokens("[c]")) != api.OK {
		t.Error("the ways are kept, not copied")
	}
}

func print(l []api.Token) string {
	s, _ := token.Print(l...)
	return s
}

// Texts yields what may go on, and what is wrong with each tail behind it.
func TestTexts(t *testing.T) {
	g := grammar.New(ways())
	got := map[string]api.Errno{}
	for l, e := range g.Texts("list", tokens("["), 2, tokens("a c ! ]"), nil, tokens("!")) {
		if _, twice := got[print(l)]; twice {
			t.Errorf("%s comes twice", print(l))
		}
		got[print(l)] = e
	}
	want := map[string]api.Errno{"[": api.ErrForm}
	for s, wrong := range map[string]string{"[ a": "a c ]", "[ c": "!", "[ ]": "a c ! ]", "[ a !": "!", "[ c a": "a c ]", "[ c c": "!", "[ c ]": "a c ! ]", "[": "!"} {
		want[s] = g.Judge("list", tokens(s))
		for _, x := range strings.Fields(wrong) {
			want[s+" "+x], want[s+" "+x+" !"] = api.ErrForm, api.ErrForm
		}
	}
	if !maps.Equal(got, want) || got["[ ]"] != api.OK {
		t.Errorf("%v, want %v", got, want)
	}
	for range g.Texts("list", tokens("]"), 2, tokens("a")) {
		t.Error("something begins with ]")
	}
	for stop := range 10 {
		count := 0
		for range g.Texts("list", tokens("["), 3, tokens("a c ]"), nil) {
			if count++; count > stop {
				break
			}
		}
		if count != stop+1 {
			t.Errorf("%d texts, want %d", count, stop+1)
		}
	}
}

// Changed yields each change of a text.
func TestChanged(t *testing.T) {
	var got []string
	for l := range grammar.Changed(tokens("a b"), tokens("!")) {
		got = append(got, print(l))
	}
	want := []string{"a b", "a b a b", "", "b", "a a b", "b a", "! a b", "! b", "a", "a", "a b b", "a b", "a ! b", "a !", "a b !"}
	if !slices.Equal(got, want) {
		t.Errorf("%q, want %q", got, want)
	}
	for stop := range len(want) {
		count := 0
		for range grammar.Changed(tokens("a b"), tokens("!")) {
			if count++; count > stop {
				break
			}
		}
		if count != stop+1 {
			t.Errorf("%d texts, want %d", count, stop+1)
		}
	}
}
