package literal_test

import (
	"fmt"
	"reflect"
	"slices"
	"testing"

	"seine/api"
	"seine/literal"
)

// loosen gives every list in v, which can be set, memory beyond its length that
// holds something else.
func loosen(v reflect.Value) {
	switch v.Kind() {
	case reflect.Slice:
		n := v.Len()
		more := reflect.MakeSlice(v.Type(), n+3, n+3)
		reflect.Copy(more, v)
		for k := range n {
			loosen(more.Index(k))
		}
		for k := n; k < n+3; k++ {
			spoil(more.Index(k))
		}
		v.Set(more.Slice(0, n))
	case reflect.Struct:
		for k := range v.NumField() {
			loosen(v.Field(k))
		}
	}
}

// spoil makes of v, an element of a list, another one.
func spoil(v reflect.Value) {
	switch v.Kind() {
	case reflect.String:
		v.SetString("other")
	case reflect.Int, reflect.Int64:
		v.SetInt(int64(api.Var))
	case reflect.Bool:
		v.SetBool(true)
	case reflect.Struct:
		for k := range v.NumField() {
			spoil(v.Field(k))
		}
	}
}

// memory tells all of v, each list up to its capacity.
func memory(v reflect.Value) string {
	switch v.Kind() {
	case reflect.Slice:
		out := fmt.Sprint(v.Len(), "[")
		for k := range v.Cap() {
			out += memory(v.Slice(0, v.Cap()).Index(k)) + " "
		}
		return out + "]"
	case reflect.Struct:
		out := "{"
		for k := range v.NumField() {
			out += memory(v.Field(k)) + " "
		}
		return out + "}"
	}
	return fmt.Sprintf("%#v", v.Interface())
}

// A question is what is handed in.
type question struct {
	S api.Schema
	T api.Type
	V api.Value
}

// questions ask for right values, for wrong ones and for some that may not be, with
// memory beyond each of their lists.
func questions(t *testing.T) []*question {
	var out []*question
	for _, text := range []string{"Int", "E!", "[I]", "[[J!]]!", "K", "Z", "[[Int]]"} {
		for _, v := range []string{
			"$x", "null", "1", "X", "[]", "[$x 1 $y]", "[[$x] $y null]", "{a:$x b:[$y 1 $z] c:{a:$x}}", "[[{i:{a:$x}l:[[]]e:$y}]]", "{i:$i l:{i:$i l:[$l null]}}",
			"{}", "{a:1 a:1}", "{a:1 z:$z}", "[[1] 2]", "{k:{k:{b:$b}} b:true}", "{i:{} l:1}",
		} {
			out = append(out, &question{schema(t, plain), typ(t, text), val(t, v)})
		}
		for _, v := range bads() {
			out = append(out, &question{schema(t, plain), typ(t, text), list(list(v), v)})
		}
		odd := of(full(api.Object, "I"), full(9, "K"), input("J", param("i", "I"), param("i", "J")), enum("I", "X"), full(api.Input, "Int"))
		out = append(out, &question{odd, typ(t, text), val(t, "{i:$i}")}, &question{odd, typ(t, text), val(t, "[{a:$a i:{i:$i}}]")})
	}
	for _, q := range out {
		loosen(reflect.ValueOf(q).Elem())
	}
	return out
}

// R3, R4: nothing handed in is changed, up to its capacity; R5: the same is answered each time, in whatever order the questions come.
func TestArgumentsStay(t *testing.T) {
	l := questions(t)
	first := make([]string, len(l))
	for turn := range 3 {
		for k := range l {
			if turn == 1 {
				k = len(l) - 1 - k
			}
			q := l[k]
			want := memory(reflect.ValueOf(q).Elem())
			answer := fmt.Sprint(literal.Right(q.S, q.T, q.V), literal.Spots(q.S, q.T, true, q.V), literal.Spots(q.S, q.T, false, q.V))
			if got := memory(reflect.ValueOf(q).Elem()); got != want {
				t.Errorf("%s for %s became %s, was %s", show(q.V), show(q.T), got, want)
			}
			if turn > 0 && answer != first[k] {
				t.Errorf("%s for %s: %s, then %s", show(q.V), show(q.T), first[k], answer)
			}
			first[k] = answer
		}
	}
}

// R4: what is answered is new memory, up to its capacity: whatever becomes of it, neither what was handed in nor another answer changes.
func TestAnswersAreNewMemory(t *testing.T) {
	spots := 0
	for _, q := range questions(t) {
		want := memory(reflect.ValueOf(q).Elem())
		one := literal.Spots(q.S, q.T, true, q.V)
		told := slices.Clone(one)
		two := literal.Spots(q.S, q.T, true, q.V)
		two = two[:cap(two)]
		for k := range two {
			two[k] = api.Spot{Var: "other", T: api.Type{Name: "Other", Lists: 3, Musts: 9}}
		}
		if got := memory(reflect.ValueOf(q).Elem()); got != want || !slices.Equal(one, told) {
			t.Errorf("%s for %s became %s, was %s; the answer became %v, was %v", show(q.V), show(q.T), got, want, one, told)
		}
		if three := literal.Spots(q.S, q.T, true, q.V); !slices.Equal(three, told) || !slices.Equal(one, told) {
			t.Errorf("%s for %s: the answer became %v, then %v, was %v", show(q.V), show(q.T), one, three, told)
		}
		spots += len(told)
	}
	if spots == 0 {
		t.Error("no Spots are answered")
	}
}

// R4: nothing of a call is kept: what a caller does to the lists afterwards counts.
func TestNothingIsKept(t *testing.T) {
	q := question{schema(t, plain), typ(t, "I"), val(t, "{a:$x b:[1 $y]}")}
	if !literal.Right(q.S, q.T, q.V) || spotsText(literal.Spots(q.S, q.T, true, q.V)) != "x Int! false;y Int false;" {
		t.Error("the value is not right before it is changed")
	}
	for k, d := range q.S.Defs {
		if d.Name == "I" {
			q.S.Defs[k].Params[0].Name, q.S.Defs[k].Params[1].T.Name = "z", "String"
		}
	}
	rightIs(t, q.S, q.T, q.V, false)
	q.V.M[0].Name, q.V.M[1].V.L[0] = "z", single(api.Text, "")
	spotsAre(t, q.S, q.T, true, q.V, "x Int! false;y String false;")
}
