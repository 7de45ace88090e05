package defs_test

import (
	"fmt"
	"reflect"
	"slices"
	"testing"

	"seine/api"
	"seine/defs"
)

// eachList calls do for every list in v, those within others first. The lists of
// values are left out: values may be shared, and nobody changes these.
func eachList(v reflect.Value, do func(list reflect.Value)) {
	switch v.Kind() {
	case reflect.Slice:
		for k := range v.Len() {
			eachList(v.Index(k), do)
		}
		do(v)
	case reflect.Struct:
		for k := 0; k < v.NumField() && v.Type() != reflect.TypeFor[api.Value](); k++ {
			eachList(v.Field(k), do)
		}
	}
}

// all is list up to its capacity.
func all(list reflect.Value) reflect.Value { return list.Slice(0, list.Cap()) }

// loosen gives list, which can be set, memory beyond its length that holds
// something else.
func loosen(list reflect.Value) {
	n := list.Len()
	more := reflect.MakeSlice(list.Type(), n+3, n+3)
	reflect.Copy(more, list)
	for k := n; k < n+3; k++ {
		spoil(more.Index(k))
	}
	list.Set(more.Slice(0, n))
}

// spoil makes of v, an element of a list, another one.
func spoil(v reflect.Value) {
	if v.Kind() == reflect.String {
		v.SetString("other")
		return
	}
	v.Set(reflect.Zero(v.Type()))
	v.FieldByName("Name").SetString("other")
}

// spoilAll makes others of all elements of list, up to its capacity.
func spoilAll(list reflect.Value) {
	for k := range list.Cap() {
		spoil(all(list).Index(k))
	}
}

// memory tells all lists of s, each up to its capacity.
func memory(s *api.Schema) string {
	out := ""
	eachList(reflect.ValueOf(s).Elem(), func(list reflect.Value) {
		out += fmt.Sprintf("%d%+v ", list.Len(), all(list))
	})
	return out
}

// crowded is a schema in which every list has elements, and memory beyond them.
func crowded() *api.Schema {
	text := api.Value{Kind: api.Text, S: "t"}
	value := api.Value{Kind: api.Map, M: []api.Member{{Name: "m", V: api.Value{Kind: api.List, L: []api.Value{text, text}}}}}
	args := func() []api.Member { return []api.Member{{Name: "x", V: value}, {Name: "y", V: text}} }
	params := func() []api.Param {
		return []api.Param{{Name: "p", T: typ("Int", 1, 2), Has: true, Default: value}, {Name: "q", T: typ("E", 0, 0)}}
	}
	fields := func() []api.FieldDef {
		dirs := []api.Dir{{Name: "d", Args: args()}, {Name: "e"}, {Name: "f", Args: args()}}
		return []api.FieldDef{{Name: "a", T: typ("Int", 0, 0), Params: params(), Dirs: dirs}, {Name: "b", T: typ("A", 0, 1), Dirs: []api.Dir{{Name: "g", Args: args()}}}}
	}
	s := of()
	for kind, name := range names("S A N U E I") {
		s.Defs = append(s.Defs, api.Def{Kind: kind, Name: name, Faces: names("N M"), Fields: fields(), Parts: names("A Z A B"), Params: params()})
	}
	s.Defs = append(s.Defs, object("B", names("N")), object("Int", names("N")), enum("A"), object("A", names("N")))
	eachList(reflect.ValueOf(&s).Elem(), loosen)
	return &s
}

// asked are the names of crowded, of Scalars, and of nothing.
func asked() []string { return append(scalarNames(), names("S A N U E I B Z other __typename")...) }

// R3, R4: nothing handed in is changed, up to its capacity; R5: the same is answered each time.
func TestArgumentsStay(t *testing.T) {
	s := crowded()
	want := memory(s)
	var first []string
	for range 2 {
		var got []string
		for _, a := range asked() {
			d, ok := defs.Find(*s, a)
			got = append(got, show(d), show(ok), show(defs.Possible(*s, a)), show(defs.Leaf(*s, a)), show(defs.Composite(*s, a)), show(defs.Entry(*s, a)))
			for _, b := range append(asked(), "a", "b") {
				f, ok := defs.Field(*s, a, b)
				got = append(got, show(f), show(ok), show(defs.Meets(*s, a, b)), show(defs.Sub(*s, typ(a, 1, 3), typ(b, 1, 1))))
			}
		}
		if memory(s) != want {
			t.Errorf("the schema became %s, was %s", memory(s), want)
		}
		if first != nil && !slices.Equal(first, got) {
			t.Error("other answers than before")
		}
		first = got
	}
}

// R4: what is answered is new memory, up to its capacity: whatever becomes of it, neither the schema nor another answer changes.
func TestAnswersAreNewMemory(t *testing.T) {
	s := crowded()
	want := memory(s)
	for _, a := range asked() {
		for what, ask := range map[string]func() any{
			"Find":     func() any { d, _ := defs.Find(*s, a); return &d },
			"Field":    func() any { f, _ := defs.Field(*s, a, "a"); return &f },
			"Field b":  func() any { f, _ := defs.Field(*s, a, "b"); return &f },
			"typename": func() any { f, _ := defs.Field(*s, a, "__typename"); return &f },
			"Possible": func() any { l := defs.Possible(*s, a); return &l },
		} {
			one := ask()
			told := show(reflect.ValueOf(one).Elem())
			two := ask()
			eachList(reflect.ValueOf(two).Elem(), spoilAll)
			three := ask()
			if memory(s) != want {
				t.Fatalf("%s of %q: the schema became %s", what, a, memory(s))
			}
			if show(reflect.ValueOf(one).Elem()) != told || show(reflect.ValueOf(three).Elem()) != told {
				t.Fatalf("%s of %q: what was answered became %s, then %s, was %s", what, a, show(one), show(three), told)
			}
		}
	}
}

// R4: no two lists of an answer are the same memory, also where those handed in are.
func TestListsOfAnswersAreApart(t *testing.T) {
	d := full(api.Object, "A")
	d.Parts = d.Faces
	d.Fields[0].Params, d.Fields[1].Params = d.Params, d.Params
	d.Fields[0].Dirs = []api.Dir{{Name: "d", Args: []api.Member{{Name: "x"}}}, {Name: "e"}}
	d.Fields[1].Dirs = d.Fields[0].Dirs
	d.Fields[0].Dirs[1].Args = d.Fields[0].Dirs[0].Args
	got, _ := defs.Find(of(d), "A")
	want := show(got)
	var starts []uintptr
	eachList(reflect.ValueOf(&got).Elem(), func(list reflect.Value) {
		if list.Cap() > 0 {
			starts = append(starts, list.Pointer())
		}
	})
	slices.Sort(starts)
	if len(starts) != 12 || len(slices.Compact(starts)) != 12 || want != show(d) {
		t.Errorf("of %d lists some are the same; %s is found for %s", len(starts), want, show(d))
	}
}

// P9.1, P9.3: many Defs, and many names that occur twice.
func TestLarge(t *testing.T) {
	s := of(union("U"), face("F", nil))
	for k := range 2000 {
		name := fmt.Sprint("T", k)
		s.Defs[0].Parts = append(s.Defs[0].Parts, name, name)
		s.Defs = append(s.Defs, object(name, names("F")))
	}
	if d, ok := defs.Find(s, "U"); !ok || len(d.Parts) != 4000 {
		t.Errorf("Find returns %d Parts, %v", len(d.Parts), ok)
	}
	parts, bearers := defs.Possible(s, "U"), defs.Possible(s, "F")
	if len(parts) != 2000 || !slices.Equal(parts, bearers) || !defs.Meets(s, "U", "F") || !defs.Sub(s, typ("T1999", 0, 0), typ("U", 0, 0)) {
		t.Errorf("%d Parts and %d bearers are possible", len(parts), len(bearers))
	}
}
