package sdl_test

import (
	"fmt"
	"reflect"
	"testing"

	"seine/api"
	"seine/sdl"
)

// loosen gives every list in v, which can be set, memory beyond its length that
// holds something else.
func loosen(v reflect.Value) {
	switch v.Kind() {
	case reflect.Slice:
		n := v.Len()
		more := reflect.MakeSlice(v.Type(), n+3, n+3)
		reflect.Copy(more, v)
		for k := range n {
			loosen(more.Index(k))
		}
		for k := n; k < n+3; k++ {
			spoil(more.Index(k))
		}
		v.Set(more.Slice(0, n))
	case reflect.Struct:
		for k := range v.NumField() {
			loosen(v.Field(k))
		}
	}
}

// spoil sets the texts of v, an element of a list.
func spoil(v reflect.Value) {
	switch v.Kind() {
	case reflect.String:
		v.SetString("other")
	case reflect.Struct:
		for k := range v.NumField() {
			spoil(v.Field(k))
		}
	}
}

// spoilBeyond spoils the memory between length and capacity of every list in v.
func spoilBeyond(v reflect.Value) {
	switch v.Kind() {
	case reflect.Slice:
		full := v.Slice(0, v.Cap())
		for k := v.Len(); k < v.Cap(); k++ {
			spoil(full.Index(k))
		}
		for k := range v.Len() {
			spoilBeyond(v.Index(k))
		}
	case reflect.Struct:
		for k := range v.NumField() {
			spoilBeyond(v.Field(k))
		}
	}
}

// memory tells all of v, each list up to its capacity.
func memory(v reflect.Value) string {
	switch v.Kind() {
	case reflect.Slice:
		out := fmt.Sprint(v.Len(), "[")
		for k := range v.Cap() {
			out += memory(v.Slice(0, v.Cap()).Index(k)) + " "
		}
		return out + "]"
	case reflect.Struct:
		out := "{"
		for k := range v.NumField() {
			out += memory(v.Field(k)) + " "
		}
		return out + "}"
	}
	return fmt.Sprintf("%#v", v.Interface())
}

// R4: nothing handed in is changed, whether it is Right or not.
func TestArgumentsStay(t *testing.T) {
	for _, text := range samples() {
		for _, change := range []func(s *api.Schema){
			func(s *api.Schema) {},
			func(s *api.Schema) { s.Query, s.Mutation = "", "1" },
			func(s *api.Schema) { s.Defs = append(s.Defs, api.Def{}) },
			func(s *api.Schema) { s.Defs[0].Parts = append(s.Defs[0].Parts, "true", "1") },
		} {
			s, _ := sdl.Read(text)
			change(&s)
			v := reflect.ValueOf(&s).Elem()
			loosen(v)
			want := memory(v)
			for range 2 {
				sdl.Right(s)
				sdl.Print(s)
			}
			if got := memory(v); got != want {
				t.Errorf("%s became %s, was %s", text, got, want)
			}
		}
	}
}

// R4 and R5: what is answered is new memory, up to its capacity, and is always the same.
func TestAnswersAreNewMemory(t *testing.T) {
	long := `type A implements I&J&K{a(b:C=[1 2 3]d:E={f:1 g:2 h:3}i:J):K@l(m:1 n:[4 5 6] o:7)@p@q r:S t:U}enum V{W X Y}union Z=A|B|C input D{e:F g:H i:J}`
	for _, text := range append(samples(), long) {
		one, _ := sdl.Read(text)
		two, _ := sdl.Read(text)
		want := show(one)
		spoilBeyond(reflect.ValueOf(&two).Elem())
		if show(one) != want || show(two) != want {
			t.Errorf("%s: the answers became %s and %s", text, show(one), show(two))
		}
		v := reflect.ValueOf(&two).Elem()
		for k := range v.Field(0).Len() {
			spoil(v.Field(0).Index(k))
		}
		three, e := sdl.Read(text)
		if show(one) != want || show(three) != want || e != api.OK {
			t.Errorf("%s: the answers became %s and %s, %d", text, show(one), show(three), e)
		}
		first, _ := sdl.Print(one)
		if second, ok := sdl.Print(three); !ok || first != second {
			t.Errorf("%s is printed as %s, then as %s", text, first, second)
		}
	}
}
