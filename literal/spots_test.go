package literal_test

import (
	"fmt"
	"strings"
	"testing"

	"seine/api"
	"seine/literal"
	"seine/wrap"
)

// spotsText tells of each Spot its name, its type and whether there is a default.
func spotsText(l []api.Spot) string {
	var out strings.Builder
	for _, x := range l {
		text, ok := wrap.Print(x.T)
		if !ok {
			text = "?"
		}
		fmt.Fprintf(&out, "%s %s %v;", x.Var, text, x.Has)
	}
	return out.String()
}

// spotsAre holds Spots of a value that is right against what is wanted.
func spotsAre(t *testing.T, s api.Schema, x api.Type, has bool, v api.Value, want string) {
	t.Helper()
	if !literal.Right(s, x, v) {
		t.Errorf("%s is not right for %s", show(v), show(x))
	}
	if got := spotsText(literal.Spots(s, x, has, v)); got != want {
		t.Errorf("Spots(%s, %v, %s) = %s, want %s", show(x), has, show(v), got, want)
	}
}

// P10.2: a Var as the value itself has the type and the default that are handed in.
func TestSpotItself(t *testing.T) {
	s := schema(t, plain)
	for _, name := range []string{"Int", "E", "I", "Query", "Z"} {
		for lists := range 5 {
			for musts := range 2 << lists {
				for _, has := range []bool{true, false} {
					x := api.Type{Name: name, Lists: lists, Musts: musts}
					text, _ := wrap.Print(x)
					spotsAre(t, s, x, has, variable("some_Name1"), fmt.Sprintf("some_Name1 %s %v;", text, has))
				}
			}
		}
	}
}

// P10.2: the Vars within values: in lists, in values that stand for lists, and in Maps, with their defaults and without.
func TestSpots(t *testing.T) {
	s := schema(t, plain)
	for _, x := range []struct{ t, v, want string }{
		{"Int", "1", ""},
		{"Int", "null", ""},
		{"[Int]", "null", ""},
		{"[Int]", "1", ""},
		{"[Int]", "[]", ""},
		{"[[Int]]", "[null [] [null 1]]", ""},
		{"K", "{k:{k:null} b:true}", ""},
		{"[Int!]", "[$x]", "x Int! false;"},
		{"[Int]!", "[$b $a 1 $b null]", "b Int false;a Int false;b Int false;"},
		{"[[Int!]]", "[[$a] $b [] null [1 $c]]", "a Int! false;b [Int!] false;c Int! false;"},
		{"[[[E]!]]!", "[[$b [$c]] $a]", "b [E]! false;c E false;a [[E]!] false;"},
		{"[Query]", "[$q $q $q]", "q Query false;q Query false;q Query false;"},
		{"I", "{a:$x}", "x Int! false;"},
		{"I", "{a:1 b:$x}", "x [Int] true;"},
		{"I", "{a:1 b:[$x]}", "x Int false;"},
		{"I", "{d:$d c:{b:[$x 1 $y] a:$a} b:$x a:$a}", "d E false;x Int false;y Int false;a Int! false;x [Int] true;a Int! false;"},
		{"J", "{i:$i l:$l e:$e s:$s}", "i I! false;l [[J!]]! false;e E! true;s String false;"},
		{"J", "{i:{a:$a b:$b} l:{i:$i l:[$l] e:$e} e:$f}", "a Int! false;b [Int] true;i I! false;l [J!] false;e E! true;f E! true;"},
		{"J", "{e:$a l:[[{l:[] i:$b e:$c}] $d] i:$a}", "a E! true;b I! false;c E! true;d [J!] false;a I! false;"},
		{"[I]", "{a:$a b:$b}", "a Int! false;b [Int] true;"},
		{"[[I!]!]", "{a:$a b:$b c:$c}", "a Int! false;b [Int] true;c I false;"},
		{"[[I]]", "[[{a:$a b:$b} $c] $d]", "a Int! false;b [Int] true;c I false;d [I] false;"},
		{"K", "{k:{k:{k:$x b:$y}} b:$x}", "x K false;y Boolean false;x Boolean false;"},
		{"Loop!", "{loop:{loop:{loop:$x}}}", "x Loop! false;"},
	} {
		for _, has := range []bool{true, false} {
			spotsAre(t, s, typ(t, x.t), has, val(t, x.v), x.want)
		}
	}
}

// P10.2: a Map's Params are those of the first Def with the Name, and the first with each Name; no Def replaces a Scalar.
func TestSpotsOfNamesTwice(t *testing.T) {
	a, b := param("a", "Int"), has(must(param("a", "String")))
	v := mapped(member("a", variable("x")))
	for _, x := range []struct {
		s    api.Schema
		want string
	}{
		{of(input("I", a, b)), "x Int false;"},
		{of(input("I", b, a)), "x String! true;"},
		{of(input("I", a), input("I", b)), "x Int false;"},
		{of(input("J"), input("I", b), input("I", a), enum("I", "a")), "x String! true;"},
		{of(input("Int", b), input("I", param("b", "Int"), a)), "x Int false;"},
	} {
		for lists := range 5 {
			spotsAre(t, x.s, api.Type{Name: "I", Lists: lists}, true, v, x.want)
			spotsAre(t, x.s, api.Type{Name: "I", Lists: lists, Musts: 2<<lists - 1}, false, v, x.want)
		}
	}
	kept := api.Param{Name: "é", T: api.Type{Name: "Z", Lists: 2, Musts: 5}, Has: true, Default: variable("y")}
	spotsAre(t, of(input("I", param("", "I"), kept)), named("I"), true, mapped(member("é", variable("x")), member("", mapped(member("", variable("z"))))), "x [[Z!]]! true;z I false;")
}
