package schema_test

import (
	"fmt"
	"testing"

	"seine/api"
	"seine/every"
	"seine/literal"
	"seine/parse"
	"seine/schema"
	"seine/value"
)

// P11.1, rule 8: Inputs that require themselves, and that do not.
func TestRings(t *testing.T) {
	each(t, 8,
		"input I{a:I!}", "input I{b:Int a:I!}", "input I{a:I b:[I!]! c:I!}", "input I{a:Int! b:ID! c:I! d:Int!}", "input I{a:I!={}}", "input I{a:I!=null}", "input I{a:Int=\"s\" b:I!}",
		"input I{a:J!}input J{a:I!}", "input I{a:J! b:Int}input J{b:Int a:I!}", "input I{a:J!}input J{a:K!}input K{a:I!}", "input I{a:J!}input J{a:K!}input K{a:L!}input L{a:I!}",
		"input I{a:J!}input J{a:J!}", "input I{a:J!}input J{a:K!}input K{a:J!}", "input I{a:J!}input J{a:K!}input K{a:L!}input L{a:J!}input M{a:K!}", "input I{a:J! b:K!}input J{a:Int}input K{a:L!}input L{a:J! b:K!}",
		"input I{a:Int!}input J{a:I!}input K{a:J! b:K!}", "input I{a:J b:K!}input J{a:I!}input K{a:I!}", "input I{a:J! b:K!}input J{a:L!}input K{a:L!}input L{a:M! b:N!}input M{a:Int!}input N{a:I!}",
		"input I{a:I}input J{a:J!}", "input I{a:J! b:J!}input J{a:I! b:I!}",
	)
	each(t, 0,
		"input I{a:I}", "input I{a:[I]}", "input I{a:[I!]}", "input I{a:[I]!}", "input I{a:[I!]!}", "input I{a:[[I!]!]!}", "input I{a:I b:[I!]! c:Int!}",
		"input I{a:J!}input J{a:I}", "input I{a:J}input J{a:I!}", "input I{a:J!}input J{a:[I!]!}", "input I{a:J!}input J{a:K!}input K{a:I}", "input I{a:J!}input J{a:K!}input K{a:[I!]! b:Int!}", "input I{a:J! b:I}input J{b:J a:[J!]!}",
		"input I{a:J! b:J!}input J{a:Int!}", "input I{a:J! b:K!}input J{a:L!}input K{a:L!}input L{a:Int!}", "input I{a:J! b:K! c:L!}input J{a:K! b:L!}input K{a:L!}input L{a:E!}enum E{X}", "input L{a:Int!}input K{a:L!}input J{a:K! b:L!}input I{a:L! b:K! c:J!}",
		"input I{a:Int! b:Boolean! c:String! d:ID! e:E!}enum E{I}", "type A{a(x:I!):A!}input I{A:Int!}", "type A{a(x:I!):B!}type B{b(x:I!):A!}input I{x:Int!}", "type A{a:A!}interface F{a:F!}",
	)
	each(t, 9, "input I{a:J!={}}input J{a:I}", "input I{a:I=null}", "input I{a:[I!]!=[]}")
}

// three are all Inputs with the names, each of which has none, a Param that has to
// be there, or one that has not, of each.
func three(t *testing.T, set int, all []string) (api.Schema, map[[2]string]bool) {
	t.Helper()
	s, needs := of(query()), map[[2]string]bool{}
	for _, name := range all {
		d := input(name, param("n", "Int!"))
		for _, of := range all {
			switch set % 3 {
			case 1:
				d.Params = append(d.Params, param(of+"1", of+"!"))
				needs[[2]string{name, of}] = true
			case 2:
				d.Params = append(d.Params, param(of+"2", of), param(of+"3", "["+of+"!]!"))
			}
			set /= 3
		}
		s.Defs = append(s.Defs, d)
	}
	return s, needs
}

// ring reports whether somebody needs himself, in however many steps.
func ring(needs map[[2]string]bool, all []string) bool {
	for _, by := range all {
		for _, a := range all {
			for _, b := range all {
				if needs[[2]string{a, by}] && needs[[2]string{by, b}] {
					needs[[2]string{a, b}] = true
				}
			}
		}
	}
	for _, a := range all {
		if needs[[2]string{a, a}] {
			return true
		}
	}
	return false
}

// P11.1, rule 8: three Inputs, each of which requires, takes or does not know each.
func TestEveryThreeInputs(t *testing.T) {
	rings := 0
	all := names("I J K")
	for set := range 19683 {
		s, needs := three(t, set, all)
		want := ring(needs, all)
		if want {
			rings++
		}
		is(t, s, unless(!want, 8))
	}
	if rings < 5000 || rings > 18000 {
		t.Errorf("%d have rings", rings)
	}
}

// P11.1, rule 8: four Inputs, each of which requires some of them.
func TestEveryFourInputs(t *testing.T) {
	all := names("I J K L")
	for set := range 1 << 16 {
		s, needs := api.Schema{Query: "Query"}, map[[2]string]bool{}
		for i, name := range all {
			d := input(name, param("n", "Int"))
			for j, of := range all {
				if set>>(4*i+j)&1 == 1 {
					d.Params = append(d.Params, api.Param{Name: of, T: api.Type{Name: of, Musts: 1}})
					needs[[2]string{name, of}] = true
				}
			}
			s.Defs = append(s.Defs, d)
		}
		s.Defs = append(s.Defs, api.Def{Kind: api.Object, Name: "Query", Fields: []api.FieldDef{{Name: "a", T: api.Type{Name: "Int"}}}})
		if want := unless(!ring(needs, all), 8); schema.Check(s) != want || schema.Rule(s, 8) != (want == 0) {
			t.Fatalf("Check(%s) = %d, want %d", show(s), schema.Check(s), want)
		}
	}
}

// P11.1, rule 8: rings of many Inputs, with a long way to them, and none though
// there are more ways than can be gone.
func TestLargeInputs(t *testing.T) {
	const n = 1500
	name := func(k int) string { return fmt.Sprint("I", k) }
	link := func(d api.Def, k int) api.Def {
		d.Params = append(d.Params, param(fmt.Sprint("p", len(d.Params)), name(k)+"!"))
		return d
	}
	for _, back := range []int{-1, 0, 1, n / 2, n - 2, n - 1} {
		up, down := of(query()), of(query())
		for k := range n {
			d := input(name(k), param("x", "Int!"))
			if k+1 < n {
				d = link(link(d, k+1), k+1)
			} else if back >= 0 {
				d = link(d, back)
			}
			up.Defs, down.Defs = append(up.Defs, d), append([]api.Def{d}, down.Defs...)
		}
		is(t, up, unless(back < 0, 8))
		is(t, down, unless(back < 0, 8))
	}
	ways := of(query()) // two of each step lead to both of the next one
	for k := range 60 {
		for _, side := range names("l r") {
			ways.Defs = append(ways.Defs, input(fmt.Sprint(side, k), param("a", fmt.Sprint("l", k+1, "!")), param("b", fmt.Sprint("r", k+1, "!"))))
		}
	}
	end := append(ways.Defs, input("l60", param("a", "Int!")))
	is(t, of(append(end, input("r60", param("a", "Int!")))...), 0)
	is(t, of(append(end, input("r60", param("a", "r30!")))...), 8)
}

// val reads a value that is right.
func val(t *testing.T, text string) api.Value {
	t.Helper()
	v, e := parse.Value(text, true)
	if e != api.OK {
		t.Fatalf("%s is not read: %d", text, e)
	}
	return v
}

// P11.1, rule 9: defaults that are right, and that are not.
func TestDefaults(t *testing.T) {
	each(t, 0,
		"type Query{a(x:Int=1 y:Int=-2147483648 z:Int=2147483647 s:String=\"\" b:Boolean!=false i:ID=1 j:ID=\"a\" e:E=X f:E!=Y):Int}enum E{X Y}",
		"type Query{a(x:[Int]=1 y:[Int!]!=[1 2] z:[[Int]]=1 u:[[Int]]=[[1][]null] v:[Int]=[] w:[Int]=null n:Int=null):Int}",
		"type Query{a(i:I={n:1} j:I={n:1 m:[2]} k:I=null l:[I]={n:1} m:[I!]=[{n:1}{n:2 i:{n:3}}] o:I!={n:1 i:null}):Int}input I{n:Int! m:[Int]=[1] i:I}",
		"interface F{a(x:Int=1):Int}type A implements F{a(x:Int=2 y:[Int!]!=3):Int}",
		"input I{a:Int=1 b:[Int!]!=[1] c:E=X d:[[E]]=Y e:ID!=\"\" f:String=null g:Boolean=true h:[[E!]!]=[[X Y]]}enum E{X Y}",
		"type Query{a(i:I={}):Int}input I{a:Int!=1 b:I}", "type Query{a(i:I={b:{}}):Int}input I{a:Int b:J!}input J{a:Int}",
	)
	each(t, 9,
		"type Query{a(x:Int=\"s\"):Int}", "type Query{a(x:Int=2147483648):Int}", "type Query{a(x:Int=-2147483649):Int}", "type Query{a(x:Int=1.0):Int}", "type Query{a(x:Int=99999999999999999999):Int}", "type Query{a(x:Int!=null):Int}", "type Query{a(x:Int=X):Int}", "type Query{a(x:Int=[]):Int}", "type Query{a(x:Int=[1]):Int}", "type Query{a(x:Int={}):Int}", "type Query{a(x:Int=true):Int}",
		"type Query{a(x:String=1):Int}", "type Query{a(x:String=X):Int}", "type Query{a(x:Boolean=1):Int}", "type Query{a(x:Boolean=\"true\"):Int}", "type Query{a(x:ID=1.5):Int}", "type Query{a(x:ID=true):Int}", "type Query{a(x:ID!=null):Int}",
		"type Query{a(x:E=Z):Int}enum E{X}", "type Query{a(x:E=\"X\"):Int}enum E{X}", "type Query{a(x:E=x):Int}enum E{X}", "type Query{a(x:[E]=[X Z]):Int}enum E{X}", "type Query{a(x:E!=null):Int}enum E{null_}",
		"type Query{a(x:[Int!]=[null]):Int}", "type Query{a(x:[Int]!=null):Int}", "type Query{a(x:[[Int]]=[1]):Int}", "type Query{a(x:[[Int]]=[[1]2]):Int}", "type Query{a(x:[Int]=[1 [2]]):Int}", "type Query{a(x:[Int]=\"a\"):Int}",
		"type Query{a(x:I={}):Int}input I{n:Int!}", "type Query{a(x:I={n:null}):Int}input I{n:Int!}", "type Query{a(x:I={n:1 m:1}):Int}input I{n:Int!}", "type Query{a(x:I={n:1 n:1}):Int}input I{n:Int!}", "type Query{a(x:I=1):Int}input I{n:Int}", "type Query{a(x:I=[{}]):Int}input I{n:Int}", "type Query{a(x:I={i:{n:\"a\"}}):Int}input I{n:Int i:I}", "type Query{a(x:[I]=[{n:1}{n:X}]):Int}input I{n:Int}",
		"type Query{a(x:Int=1 y:Int=X z:Int=2):Int}", "type Query{a(x:Int=1):Int b(y:Int=1 z:Int=X):Int c(u:Int=1):Int}", "interface F{a(x:Int=X):Int}", "interface F{a(x:Int=1):Int b(x:Int=1 y:ID=X):Int}", "interface F{a(x:Int):Int}type A implements F{a(x:Int=X):Int}", "interface F{a(x:Int=X):Int}type A implements F{a(x:Int=1):Int}",
		"input I{a:Int=X}", "input I{a:Int=1 b:Int=2 c:Int=\"3\"}", "input I{a:Int!=null}", "input I{a:E=Y}enum E{X}", "input I{b:[[Int]]=[1]}", "input I{a:Int}input J{a:Int=1 b:Boolean=0}",
		"input I{a:J={}}input J{a:Int}", "input I{a:J=null}input J{a:Int}", "input I{a:J!={a:1}}input J{a:Int}", "input I{a:[J]=[]}input J{a:Int}", "input I{a:[J]=null}input J{a:Int}", "input I{a:[[J!]!]!=[]}input J{a:Int}", "input I{a:I={}}", "input I{a:[I!]=[]}", "input I{n:Int=1 a:Int=2 b:J={}}input J{a:Int}", "input I{a:J=1}input J{a:Int}", "type Query{a(i:I={}):Int}input I{b:J=null}input J{a:Int}",
	)
}

// P11.1, rule 9: each value as the default of each type, for a Field and for an Input.
func TestEveryDefault(t *testing.T) {
	s := read(t, "type Query{a:Int}enum E{X Y}input I{n:Int! l:[E!]=[X]}input J{i:[I] b:Boolean}")
	n := len(s.Defs)
	var values []api.Value
	for x := range every.Text(3, "1 ", "X ", "[", "]", "{n:", "{i:", "}", "null ", "\"s\" ", "true ", "1.5 ", "2147483648 ") {
		if v, e := parse.Value(x, true); e == api.OK {
			values = append(values, v)
		}
	}
	for _, x := range []string{"[[1]]", "[[X]]", "[[[1]]]", "[[1][2]]", "[1[2]]", "{n:1 l:[X]}", "{n:1 l:[Z]}", "[{n:1}{n:2}]", "[[{n:1}]]", "{i:[{n:1}]b:true}", "{i:{n:1}}", "{i:[{n:1}{}]}", "{i:[null]}", "{b:1}", "[null null]", "[null 1]", "{}", "{z:1}", "{n:1 n:1}"} {
		values = append(values, val(t, x))
	}
	rights := 0
	for _, name := range names("Int String Boolean ID E I J") {
		leaf := name != "I" && name != "J"
		for lists := range 3 {
			for musts := range 2 << lists {
				x := api.Type{Name: name, Lists: lists, Musts: musts}
				for _, v := range values {
					p := api.Param{Name: "x", T: x, Has: true, Default: v}
					right := literal.Right(s, x, v)
					if right {
						rights++
					}
					is(t, of(append(s.Defs[:n:n], object("A", field("a", "Int", p)))...), unless(right, 9))
					is(t, of(append(s.Defs[:n:n], face("A", field("a", "Int"), field("b", "Int", param("a", "Int"), p)))...), unless(right, 9))
					is(t, of(append(s.Defs[:n:n], input("A", p))...), unless(right && leaf, 9))
					is(t, of(append([]api.Def{input("A", param("a", "Int"), p, given("b", "Int", value.Int(1)))}, s.Defs...)...), unless(right && leaf, 9))
				}
			}
		}
	}
	if len(values) < 40 || rights < 300 {
		t.Errorf("%d values, %d rights", len(values), rights)
	}
}
