package dirs_test

import (
	"reflect"
	"slices"
	"testing"

	"seine/api"
	"seine/dirs"
	"seine/every"
)

func field(name string, l ...api.Sel) api.Sel {
	return api.Sel{Kind: api.Field, Name: name, Sels: l}
}

func spread(name string, l ...api.Sel) api.Sel {
	return api.Sel{Kind: api.Spread, Name: name, Sels: l}
}

func inline(on string, l ...api.Sel) api.Sel {
	return api.Sel{Kind: api.Inline, On: on, Sels: l}
}

// with is x with these directives.
func with(x api.Sel, l ...api.Dir) api.Sel {
	x.Dirs = l
	return x
}

// P15.1: every two lists of directives around each other, in selections of each Kind.
func TestEveryNest(t *testing.T) {
	s := sound(t, world)
	var lists [][]api.Dir
	for l := range every.List(2, api.Dir{Name: "skip"}, api.Dir{Name: "include", Args: []api.Member{{Name: "if"}}}, api.Dir{Name: "none"}) {
		lists = append(lists, slices.Clone(l))
	}
	frag := api.Frag{Name: "F", On: "Query", Sels: []api.Sel{field("a")}}
	counts := map[int]int{}
	for _, inner := range []api.Sel{field("a"), spread("F"), inline("", field("a")), field("b", spread("F"))} {
		for _, outer := range []api.Sel{field("b"), inline(""), inline("Query")} {
			for _, one := range lists {
				for _, two := range lists {
					for _, own := range lists {
						x := with(outer, one...)
						x.Sels = []api.Sel{field("a"), with(inner, two...), spread("F")}
						d := api.Doc{Ops: []api.Op{{Name: "A", Sels: []api.Sel{spread("F")}}, {Name: "B", Dirs: own, Sels: []api.Sel{x}}}, Frags: []api.Frag{frag}}
						want := first(d)
						counts[want]++
						judged(t, s, d, want)
					}
				}
			}
		}
	}
	if len(counts) != 4 {
		t.Errorf("so many documents are told to break each rule: %v", counts)
	}
}

// parts returns v and all parts of it, which can be set.
func parts(v reflect.Value) []reflect.Value {
	out := []reflect.Value{v}
	switch v.Kind() {
	case reflect.Slice:
		for k := range v.Len() {
			out = append(out, parts(v.Index(k))...)
		}
	case reflect.Struct:
		for k := range v.NumField() {
			out = append(out, parts(v.Field(k))...)
		}
	}
	return out
}

// shorter are the list at v without each one of its elements, and with each twice.
func shorter(v reflect.Value) []any {
	var out []any
	n := v.Len()
	for k := range n {
		ahead, behind := v.Slice3(0, k, k), v.Slice(k+1, n)
		out = append(out, reflect.AppendSlice(ahead, behind).Interface(), reflect.AppendSlice(v.Slice3(0, k+1, k+1), v.Slice(k, n)).Interface())
	}
	return out
}

// instead returns what may stand at the place of a part.
func instead(v reflect.Value) []any {
	switch x := v.Interface().(type) {
	case string:
		return []any{"", "skip", "include", "Skip", "if", "a", "b", "d", "n", "u", "id", "A", "F", "G", "Query", "__typename"}
	case int:
		return []any{0, 1, 2, 3, -1, 1 << 40}
	case []api.Dir:
		skip, include, other := api.Dir{Name: "skip"}, api.Dir{Name: "include", Args: []api.Member{{Name: "if", V: api.Value{Kind: api.Bool, N: 1}}}}, api.Dir{Name: "other"}
		return append(shorter(v), []api.Dir{}, []api.Dir{skip}, []api.Dir{skip, include}, []api.Dir{skip, skip}, []api.Dir{include, skip, include}, []api.Dir{other}, append(slices.Clip(x), skip), append(slices.Clip(x), other))
	case api.Sel:
		return []any{field("a"), with(field("a"), api.Dir{Name: "skip"}, api.Dir{Name: "skip"}), spread("F"), inline("", x), inline("Query", x), field("b", x)}
	}
	if v.Kind() == reflect.Slice {
		return shorter(v)
	}
	return nil
}

// replace calls do with each part of what v points to replaced by others.
func replace(v any, do func()) {
	for _, part := range parts(reflect.ValueOf(v).Elem()) {
		was := reflect.New(part.Type()).Elem()
		was.Set(part)
		for _, x := range instead(was) {
			part.Set(reflect.ValueOf(x))
			do()
		}
		part.Set(was)
	}
}

// samples are documents that keep all rules, by world.
func samples(t *testing.T) []api.Doc {
	var out []api.Doc
	for _, text := range []string{
		"query A($v:Boolean!){a@skip(if:$v)@include(if:true)b@include(if:$v){...F@skip(if:false)}}mutation B{b{...F}n@skip(if:true){...on A@include(if:false){a@include(if:true)}}}fragment F on Query{x:a d(x:1)@skip(if:[1{a:2}])}",
		"{u@skip{...on A{id@include}...@include@skip{...on Query{...F@include(x:1 x:2)...G}}}}fragment F on Query{c@skip@include{...G@skip}}fragment G on Query{a@skip}",
	} {
		out = append(out, read(t, text))
	}
	return out
}

// P15.1: documents with each part replaced by each of many.
func TestReplacedParts(t *testing.T) {
	s := sound(t, world)
	counts := map[int]int{}
	for _, d := range samples(t) {
		judged(t, s, d, 0)
		replace(&d, func() {
			for n := 11; n < 16; n++ {
				dirs.Rule(s, d, n)
			}
			if specified(s, d) {
				want := first(d)
				counts[want]++
				judged(t, s, d, want)
			}
		})
		judged(t, s, d, 0)
	}
	if len(counts) != 4 || counts[0] < 100 || counts[12] < 50 || counts[13] < 10 || counts[14] < 50 {
		t.Errorf("so many documents are told to break each rule: %v", counts)
	}
}
