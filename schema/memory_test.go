package schema_test

import (
	"fmt"
	"reflect"
	"testing"

	"seine/api"
	"seine/schema"
)

// eachList calls do for every list in v, which can be set, those within others last.
func eachList(v reflect.Value, do func(list reflect.Value)) {
	switch v.Kind() {
	case reflect.Slice:
		do(v)
		for k := range v.Len() {
			eachList(v.Index(k), do)
		}
	case reflect.Struct:
		for k := range v.NumField() {
			eachList(v.Field(k), do)
		}
	}
}

// loosen gives list memory beyond its length that holds something else.
func loosen(list reflect.Value) {
	n := list.Len()
	more := reflect.MakeSlice(list.Type(), n+3, n+3)
	reflect.Copy(more, list)
	for k := n; k < n+3; k++ {
		spoil(more.Index(k))
	}
	list.Set(more.Slice(0, n))
}

// tighten gives list memory of its own, and none beyond its length; there is a
// list also where there was none.
func tighten(list reflect.Value) {
	own := reflect.MakeSlice(list.Type(), list.Len(), list.Len())
	reflect.Copy(own, list)
	list.Set(own)
}

// spoil makes of v, an element of a list, another one.
func spoil(v reflect.Value) {
	switch v.Kind() {
	case reflect.String:
		v.SetString("other")
	case reflect.Int, reflect.Int64:
		v.SetInt(1)
	case reflect.Bool:
		v.SetBool(true)
	case reflect.Struct:
		for k := range v.NumField() {
			spoil(v.Field(k))
		}
	}
}

// memory tells all of v, each list up to its capacity.
func memory(v reflect.Value) string {
	switch v.Kind() {
	case reflect.Slice:
		out := fmt.Sprint(v.Len(), "[")
		for k := range v.Cap() {
			out += memory(v.Slice(0, v.Cap()).Index(k)) + " "
		}
		return out + "]"
	case reflect.Struct:
		out := "{"
		for k := range v.NumField() {
			out += memory(v.Field(k)) + " "
		}
		return out + "}"
	}
	return fmt.Sprintf("%#v", v.Interface())
}

// handed are schemas that keep all rules, or break one of them.
func handed(t *testing.T) []api.Schema {
	t.Helper()
	out := []api.Schema{{}, of(full(api.Object, "Query", "F")), of(full(api.Input, "I", "I"), query()), read(t, plain), read(t, samples)}
	for _, l := range breaks() {
		for _, change := range l {
			s := read(t, samples)
			change(&s)
			out = append(out, s)
		}
	}
	return out
}

// answers are all that is told of s.
func answers(s api.Schema) string {
	out := fmt.Sprint(schema.Check(s))
	for n := -1; n < 12; n++ {
		out += fmt.Sprint(" ", schema.Rule(s, n))
	}
	return out
}

// R3, R4: nothing handed in is changed, up to its capacity; R5: what is told does not hang on memory, and is the same each time, whatever was asked in between.
func TestArgumentsStay(t *testing.T) {
	l := handed(t)
	var first []string
	for k := range l {
		first = append(first, answers(l[k]))
	}
	for _, change := range []func(list reflect.Value){func(list reflect.Value) {}, loosen, tighten, loosen} {
		for k := range l {
			k = len(l) - 1 - k
			v := reflect.ValueOf(&l[k]).Elem()
			eachList(v, change)
			want := memory(v)
			if got := answers(l[k]); got != first[k] {
				t.Errorf("%s: told %s, then %s", show(l[k]), first[k], got)
			}
			if got := memory(v); got != want {
				t.Errorf("%s became %s, was %s", show(l[k]), got, want)
			}
		}
	}
}

// R4: nothing of a call is kept: what becomes of a schema afterwards counts.
func TestNothingIsKept(t *testing.T) {
	s := read(t, samples)
	is(t, s, 0)
	at := map[string]*api.Def{}
	for k, d := range s.Defs {
		at[d.Name] = &s.Defs[k]
	}
	steps := []struct {
		want   int
		change func()
	}{
		{9, func() { at["J"].Params[2].Default.S = "Z" }},
		{8, func() { at["I"].Params[2].T.Musts = 1 }},
		{7, func() { at["U"].Parts[1] = "F" }},
		{6, func() { at["A"].Fields[0].Params[1].T.Musts = 0 }},
		{5, func() { at["A"].Faces[1] = "U" }},
		{4, func() { at["B"].Fields[1].T.Name = "J" }},
		{3, func() { at["E"].Parts[2] = "X" }},
		{2, func() { s.Mutation = "E" }},
		{1, func() { at["E"].Name = "J" }},
	}
	for _, step := range steps {
		step.change()
		is(t, s, step.want)
	}
	is(t, read(t, samples), 0)
}

// R5: the same is told by several goroutines at once.
func TestAtOnce(t *testing.T) {
	l := handed(t)
	var first []string
	for k := range l {
		first = append(first, answers(l[k]))
	}
	ends := make(chan string)
	for range 8 {
		go func() {
			out := ""
			for k := range l {
				if got := answers(l[k]); got != first[k] {
					out = show(l[k]) + " is told " + got + ", was " + first[k]
				}
			}
			ends <- out
		}()
	}
	for range 8 {
		if out := <-ends; out != "" {
			t.Error(out)
		}
	}
}
