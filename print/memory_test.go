package print

import (
	"fmt"
	"reflect"
	"slices"
	"testing"

	"seine/api"
)

// loosen gives every list in v, which can be set, memory beyond its length that
// holds something else.
func loosen(v reflect.Value) {
	switch v.Kind() {
	case reflect.Slice:
		n := v.Len()
		more := reflect.MakeSlice(v.Type(), n+3, n+3)
		reflect.Copy(more, v)
		for k := range n {
			loosen(more.Index(k))
		}
		for k := n; k < n+3; k++ {
			mark(more.Index(k))
		}
		v.Set(more.Slice(0, n))
	case reflect.Struct:
		for k := range v.NumField() {
			loosen(v.Field(k))
		}
	}
}

// mark sets the texts of v, an element of a list.
func mark(v reflect.Value) {
	for k := range v.NumField() {
		if v.Field(k).Kind() == reflect.String {
			v.Field(k).SetString("other")
		}
	}
}

// memory tells all of v, each list up to its capacity.
func memory(v reflect.Value) string {
	switch v.Kind() {
	case reflect.Slice:
		out := fmt.Sprint(v.Len(), "[")
		for k := range v.Cap() {
			out += memory(v.Slice(0, v.Cap()).Index(k)) + " "
		}
		return out + "]"
	case reflect.Struct:
		out := "{"
		for k := range v.NumField() {
			out += memory(v.Field(k)) + " "
		}
		return out + "}"
	}
	return fmt.Sprintf("%#v", v.Interface())
}

// R4: nothing handed in is changed, whether it is Right or not.
func TestArgumentsStay(t *testing.T) {
	for _, s := range samples() {
		for _, spoil := range []func(d *api.Doc){
			func(d *api.Doc) {},
			func(d *api.Doc) { d.Ops[len(d.Ops)-1].Sels = nil },
			func(d *api.Doc) { d.Frags = append(d.Frags, api.Frag{}) },
		} {
			d := read(t, s)
			spoil(&d)
			v := reflect.ValueOf(&d).Elem()
			loosen(v)
			want := memory(v)
			for range 2 {
				Right(d)
				Tokens(d)
				Text(d)
				for _, op := range d.Ops {
					Sels(op.Sels...)
				}
				for _, f := range d.Frags {
					Sels(f.Sels...)
				}
			}
			if got := memory(v); got != want {
				t.Errorf("%s became %s, was %s", s, got, want)
			}
		}
	}
}

// R4: what is answered is new memory, up to its capacity.
func TestAnswersAreNewMemory(t *testing.T) {
	for _, s := range samples() {
		d := read(t, s)
		for _, ask := range []func() ([]api.Token, bool){
			func() ([]api.Token, bool) { return Tokens(d) },
			func() ([]api.Token, bool) { return Sels(d.Ops[0].Sels...) },
		} {
			first, _ := ask()
			want := slices.Clone(first)
			second, _ := ask()
			second = second[:cap(second)]
			for k := range second {
				second[k] = api.Token{Kind: -1, S: "other"}
			}
			third, ok := ask()
			if len(want) == 0 || !ok || !slices.Equal(first, want) || !slices.Equal(third, want) {
				t.Errorf("%s: %v became %v, then %v", s, want, first, third)
			}
		}
	}
}
