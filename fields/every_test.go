package fields_test

import (
	"reflect"
	"slices"
	"testing"

	"seine/api"
	"seine/fields"
	"seine/graph"
	"seine/schema"
)

// around returns selections of each kind, each with each of the lists within it.
func around(lists ...[]api.Sel) []api.Sel {
	var out []api.Sel
	for _, l := range lists {
		for _, name := range names("root a node any int") {
			out = append(out, field(name, l...))
		}
		for _, on := range append(names("Root A U"), "") {
			out = append(out, inline(on, l...))
		}
	}
	return out
}

// lone are the selections, each in a list of its own.
func lone(l ...api.Sel) [][]api.Sel { return slices.Collect(slices.Chunk(l, 1)) }

// pairs are all two of the selections.
func pairs(l ...api.Sel) [][]api.Sel {
	var out [][]api.Sel
	for _, x := range l {
		for _, y := range l {
			out = append(out, []api.Sel{x, y})
		}
	}
	return out
}

// ends are selections with none within them.
func ends() []api.Sel {
	var out []api.Sel
	for _, name := range names("int enum root a any __typename own put") {
		out = append(out, field(name))
	}
	return append(out, spread("A"), spread("B"))
}

// fragments are some of the Names A and B; those of A may spread B.
func fragments(t *testing.T) (a, b []api.Frag) {
	d := read(t, "fragment A on Root{int}fragment A on A{own}fragment A on N{own}fragment A on U{...B}fragment A on Root{...B}fragment A on Do{put}fragment A on V{...on Root{root}}fragment B on Root{a{own}}fragment B on A{own id}fragment B on V{__typename}fragment B on U{id}fragment B on B{also{...on B{id}}}")
	k := slices.IndexFunc(d.Frags, func(f api.Frag) bool { return f.Name == "B" })
	return d.Frags[:k], d.Frags[k:]
}

// reached is d with only those of its fragments that can be reached.
func reached(d api.Doc) api.Doc {
	l := graph.Reach(d, d.Ops[0].Sels...)
	d.Frags = slices.DeleteFunc(slices.Clone(d.Frags), func(f api.Frag) bool { return !slices.Contains(l, f.Name) })
	return d
}

// P14.2: every operation of selections three deep, with some fragments; and every fragment of such selections.
func TestEveryDocument(t *testing.T) {
	s := sound(t, world)
	counts := map[int]int{}
	check := func(d api.Doc) {
		want := first(s, d)
		counts[want]++
		judged(t, s, d, want)
	}
	lists := append(lone(around(append(lone(around(lone(ends()...)...)...), pairs(ends()...)...)...)...), pairs(ends()...)...)
	a, b := fragments(t)
	for _, kind := range []int{api.Query, api.Mutation} {
		for _, l := range lists {
			seen := 0
			for k := range len(a) * len(b) {
				d := reached(api.Doc{Ops: []api.Op{{Kind: kind, Sels: l}}, Frags: []api.Frag{a[k%len(a)], b[k/len(a)]}})
				if seen = max(seen, len(d.Frags)); k > 0 && seen == 0 {
					break
				}
				check(d)
			}
		}
	}
	for _, l := range lists {
		for k, on := range names("Root Do A U V") {
			d := api.Doc{Ops: []api.Op{{Kind: k % 2, Sels: []api.Sel{spread("C")}}}, Frags: []api.Frag{a[0], b[0], {Name: "C", On: on, Sels: l}}}
			check(reached(d))
		}
	}
	if len(counts) != 4 || counts[0] < 500 || counts[9] < 500 || counts[10] < 500 || counts[11] < 500 {
		t.Errorf("so many documents are told to break each rule: %v", counts)
	}
}

// parts returns v and all parts of it, which can be set.
func parts(v reflect.Value) []reflect.Value {
	out := []reflect.Value{v}
	switch v.Kind() {
	case reflect.Slice:
		for k := range v.Len() {
			out = append(out, parts(v.Index(k))...)
		}
	case reflect.Struct:
		for k := range v.NumField() {
			out = append(out, parts(v.Field(k))...)
		}
	}
	return out
}

// shorter are the list at v without each one of its elements, and with each twice.
func shorter(v reflect.Value) []any {
	var out []any
	n := v.Len()
	for k := range n {
		ahead, behind := v.Slice3(0, k, k), v.Slice(k+1, n)
		out = append(out, reflect.AppendSlice(ahead, behind).Interface(), reflect.AppendSlice(v.Slice3(0, k+1, k+1), v.Slice(k, n)).Interface())
	}
	return out
}

// instead returns what may stand at the place of a part.
func instead(v reflect.Value) []any {
	switch x := v.Interface().(type) {
	case string:
		return []any{"", "A", "B", "C", "M", "N", "U", "V", "E", "I", "Int", "Root", "Do", "X", "L", "Query", "a", "id", "own", "int", "root", "any", "node", "next", "put", "__typename"}
	case int:
		return []any{0, 1, 2, 3, 4, 5, -1, 1 << 40}
	case api.Sel:
		return []any{field("__typename"), field("id"), field("own"), field("int"), field("a"), field("root"), spread("A"), spread("B"), inline("", x), inline("A", x), inline("B", x), inline("Root", x), inline("U", x), inline("V", x), field("root", x), field("a", x), field("next", x), field("id", x)}
	case api.FieldDef:
		return []any{api.FieldDef{Name: "own", T: x.T}, api.FieldDef{Name: x.Name, T: api.Type{Name: "A"}}, api.FieldDef{Name: x.Name, T: api.Type{Name: "E", Lists: 2, Musts: 5}}, api.FieldDef{Name: x.Name, T: api.Type{Name: "V", Lists: 1}}}
	}
	if v.Kind() == reflect.Slice {
		return shorter(v)
	}
	return nil
}

// replace calls do with each part of what v points to replaced by others.
func replace(v any, do func()) {
	for _, part := range parts(reflect.ValueOf(v).Elem()) {
		was := reflect.New(part.Type()).Elem()
		was.Set(part)
		for _, x := range instead(was) {
			part.Set(reflect.ValueOf(x))
			do()
		}
		part.Set(was)
	}
}

// samples are documents that keep all rules, by world.
func samples(t *testing.T) []api.Doc {
	var out []api.Doc
	for _, text := range []string{
		"query Q{root{x:a{id ...on N{next{id ...A}}}any{...on B{own{id}}__typename}}int}mutation M{do{put int{...{enums}}}any{...B}}fragment A on U{...on A{us{__typename}...{own}}}fragment B on N{id...on M{also}...A}",
		"query Q($v:Int){ints(x:$v y:[1])@skip(if:true)...{int}...on V@include(if:false){...on Root{c{v{...C}id}}}}fragment C on V{...on C{c{id}}...on W{__typename...on C{id}}}",
		"{lone{lone self{...{lone}}}last{...on V{...on B{bs{next{also}}}}}nodes{...on A{es}...on B{also}}}",
		"mutation{root{...A}node{...A1}}fragment A on Root{id roots{...B}}fragment A1 on A{id}fragment B on V{...on Root{str flag}}",
	} {
		out = append(out, read(t, text))
	}
	return out
}

// P14.2: documents with each part replaced by each of many.
func TestReplacedParts(t *testing.T) {
	s := sound(t, world)
	counts := map[int]int{}
	for _, d := range samples(t) {
		judged(t, s, d, 0)
		replace(&d, func() {
			for n := 8; n < 13; n++ {
				fields.Rule(s, d, n)
			}
			if specified(s, d) {
				want := first(s, d)
				counts[want]++
				judged(t, s, d, want)
			}
		})
		judged(t, s, d, 0)
	}
	if len(counts) != 4 || counts[0] < 100 || counts[9] < 100 || counts[10] < 100 || counts[11] < 100 {
		t.Errorf("so many documents are told to break each rule: %v", counts)
	}
}

// P14.2: documents by a schema with each part replaced by each of many.
func TestReplacedPartsOfSchema(t *testing.T) {
	s := sound(t, world)
	l := samples(t)
	counts := map[int]int{}
	replace(&s, func() {
		if schema.Check(s) != 0 {
			return
		}
		for _, d := range l {
			if specified(s, d) {
				want := first(s, d)
				counts[want]++
				judged(t, s, d, want)
			}
		}
	})
	if len(counts) != 4 || counts[0] < 100 || counts[9] < 100 || counts[10] < 20 || counts[11] < 20 {
		t.Errorf("so many documents are told to break each rule: %v", counts)
	}
}
