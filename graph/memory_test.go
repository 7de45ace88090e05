package graph_test

import (
	"fmt"
	"reflect"
	"testing"

	"seine/api"
	"seine/graph"
)

// eachList calls do for every list in v, which can be set, those within others last.
func eachList(v reflect.Value, do func(list reflect.Value)) {
	switch v.Kind() {
	case reflect.Slice:
		do(v)
		for k := range v.Len() {
			eachList(v.Index(k), do)
		}
	case reflect.Struct:
		for k := range v.NumField() {
			eachList(v.Field(k), do)
		}
	}
}

// spoil makes of v, an element of a list, another one: a Spread, if it is a
// selection.
func spoil(v reflect.Value) {
	switch v.Kind() {
	case reflect.String:
		v.SetString("other")
	case reflect.Struct:
		v.SetZero()
		for k := range v.NumField() {
			if v.Field(k).Kind() == reflect.String {
				v.Field(k).SetString("A")
			}
		}
		if kind := v.FieldByName("Kind"); kind.IsValid() {
			kind.SetInt(api.Spread)
		}
	}
}

// whole is list up to its capacity.
func whole(list reflect.Value) reflect.Value { return list.Slice(0, list.Cap()) }

// room returns how a list is given memory of its own, with room for more elements,
// which hold something else.
func room(more int) func(list reflect.Value) {
	return func(list reflect.Value) {
		n := list.Len()
		own := reflect.MakeSlice(list.Type(), n+more, n+more)
		reflect.Copy(own, list)
		for k := n; k < n+more; k++ {
			spoil(own.Index(k))
		}
		list.Set(own.Slice3(0, n, n+more))
	}
}

// memory tells all of v, each list up to its capacity.
func memory(v reflect.Value) string {
	out := ""
	switch v.Kind() {
	case reflect.Slice:
		out = fmt.Sprint(v.Len())
		for k := range v.Cap() {
			out += " [" + memory(whole(v).Index(k)) + "]"
		}
	case reflect.Struct:
		for k := range v.NumField() {
			out += " {" + memory(v.Field(k)) + "}"
		}
	default:
		out = fmt.Sprintf("%#v", v.Interface())
	}
	return out
}

// A question is what is handed in.
type question struct {
	S    api.Schema
	D    api.Doc
	Sels []api.Sel
}

// answer is all that is told of q.
func (q *question) answer() string {
	out := fmt.Sprintf("%q %q %v", graph.Spreads(q.Sels...), graph.Reach(q.D, q.Sels...), graph.Loops(q.D))
	for _, name := range append(names("A B C a other"), "") {
		f, ok := graph.Frag(q.D, name)
		out += fmt.Sprintf(" %+v %v", f, ok)
	}
	for n := -1; n < 10; n++ {
		out += fmt.Sprint(" ", graph.Rule(q.S, q.D, n))
	}
	return out
}

// questions are of documents that keep all rules, of others, and of such as are
// not Right; some of them ask for lists of the document itself.
func questions(t *testing.T) []*question {
	s := sound(t)
	var out []*question
	texts := append(kept(), "{a}fragment A on E{...B}fragment A on T@d(x:1)@e(y:{z:[2 3]}){...A a(x:[$y]){...C}}fragment B on T{...A}", "query Q{a}query Q{b{...C ...B}}")
	for _, text := range texts {
		d := read(t, text)
		out = append(out, &question{s, d, spreads("B", "A")}, &question{bare(s), read(t, text), nil})
		for _, op := range d.Ops {
			out = append(out, &question{s, d, op.Sels})
		}
		for _, f := range d.Frags {
			out = append(out, &question{s, d, f.Sels})
		}
	}
	odd := spread("A", field("a", spread("B", spread("C"))))
	return append(out, &question{}, &question{Sels: []api.Sel{odd, odd}, D: of(frag("", odd), frag("A"), frag("A", odd))})
}

// R3, R4: nothing handed in is changed, up to its capacity; R5: what is told does not hang on memory, and is the same each time, whatever was asked in between.
func TestArgumentsStay(t *testing.T) {
	l := questions(t)
	var first []string
	for _, q := range l {
		first = append(first, q.answer())
	}
	for turn, change := range []func(list reflect.Value){func(list reflect.Value) {}, room(3), room(0), room(1)} {
		for k := range l {
			if turn == 1 {
				k = len(l) - 1 - k
			}
			v := reflect.ValueOf(l[k]).Elem()
			eachList(v, change)
			want := memory(v)
			if got := l[k].answer(); got != first[k] {
				t.Errorf("turn %d, question %d: %s, at first %s", turn, k, got, first[k])
			}
			if got := memory(v); got != want {
				t.Errorf("turn %d, question %d became %s, was %s", turn, k, got, want)
			}
		}
	}
}

// R4: names that are answered are new memory, up to its capacity.
func TestNamesAreNewMemory(t *testing.T) {
	for _, q := range questions(t) {
		was := memory(reflect.ValueOf(q).Elem())
		for _, ask := range []func() []string{
			func() []string { return graph.Spreads(q.Sels...) },
			func() []string { return graph.Reach(q.D, q.Sels...) },
		} {
			one := ask()
			want := fmt.Sprintf("%q", one)
			two := ask()
			two = two[:cap(two)]
			for k := range two {
				two[k] = "other"
			}
			if three := ask(); fmt.Sprintf("%q", one) != want || fmt.Sprintf("%q", three) != want {
				t.Errorf("%s became %q, then %q", want, one, three)
			}
		}
		if got := memory(reflect.ValueOf(q).Elem()); got != was {
			t.Errorf("the question became %s, was %s", got, was)
		}
	}
}

// lists are the lists of a fragment that is answered which may not be shared. The
// first one holds the later ones.
func lists(f *api.Frag) []reflect.Value {
	out := []reflect.Value{reflect.ValueOf(&f.Dirs).Elem(), reflect.ValueOf(&f.Sels).Elem()}
	for k := range f.Dirs {
		out = append(out, reflect.ValueOf(&f.Dirs[k].Args).Elem())
	}
	return out
}

// R4: a fragment that is answered has memory of its own, each of its lists up to its capacity, but for the selections and the values in it, even where the document has one list twice.
func TestFragIsNewMemory(t *testing.T) {
	d := read(t, "fragment A on T@d(x:1 y:2)@e(x:1 y:2)@f{a b(c:1){d}...B}fragment B on T@d{a}")
	d.Frags[0].Dirs[1].Args = d.Frags[0].Dirs[0].Args
	d.Frags[1].Sels, d.Frags[1].Dirs = d.Frags[0].Sels, d.Frags[0].Dirs[:2]
	was := memory(reflect.ValueOf(&d).Elem())
	for _, name := range names("A B") {
		one, _ := graph.Frag(d, name)
		want := fmt.Sprintf("%+v", one)
		for k := range lists(&one) {
			two, _ := graph.Frag(d, name)
			others := lists(&two)
			told := fmt.Sprintf("%+v", others[k+1:])
			list := whole(others[k])
			for j := range list.Len() {
				spoil(list.Index(j))
			}
			if got := fmt.Sprintf("%+v", others[k+1:]); k > 0 && got != told {
				t.Errorf("list %d of %s shares memory with others: %s became %s", k, name, told, got)
			}
			three, _ := graph.Frag(d, name)
			if fmt.Sprintf("%+v", one) != want || fmt.Sprintf("%+v", three) != want {
				t.Errorf("list %d of %s is shared: %+v, then %+v, was %s", k, name, one, three, want)
			}
			if got := memory(reflect.ValueOf(&d).Elem()); got != was {
				t.Fatalf("list %d of %s is the document's: it became %s, was %s", k, name, got, was)
			}
		}
	}
}
