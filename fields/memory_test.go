package fields_test

import (
	"fmt"
	"reflect"
	"testing"

	"seine/api"
	"seine/fields"
)

// A question is what is handed in.
type question struct {
	S   api.Schema
	D   api.Doc
	Typ string
	X   api.Sel
}

// answer is all that is told of q.
func (q *question) answer() string {
	out := fmt.Sprintf("%q", fields.Within(q.S, q.Typ, q.X))
	for _, op := range q.D.Ops {
		out += fmt.Sprintf(" %q", fields.Root(q.S, op))
	}
	for n := 8; n < 13; n++ {
		out += fmt.Sprint(" ", fields.Rule(q.S, q.D, n))
	}
	return out
}

// questions are of documents that keep all rules, of others, and of such as are
// not Right; they ask for selections of the document itself and for others.
func questions(t *testing.T) []*question {
	s := sound(t, world)
	l := samples(t)
	for typ := range entries() {
		for n, sels := range breaksOne(typ) {
			if n > 0 {
				l = append(l, read(t, "{root{...A}}fragment A on "+typ+"{...{"+sels+"}}"))
			}
		}
	}
	var out []*question
	for _, d := range l {
		out = append(out, &question{s, d, "Root", d.Ops[0].Sels[0]}, &question{bare(s), d, "A", inline("", field("id"))})
	}
	for k, x := range odds(api.Value{Kind: api.List, L: []api.Value{{}, {}}}) {
		if k%8 == 0 {
			out = append(out, &question{api.Schema{Query: "A", Defs: pieces()}, api.Doc{Ops: []api.Op{{Kind: k % 3, Sels: []api.Sel{x}}}, Frags: []api.Frag{{Name: "A", On: "A", Sels: []api.Sel{x, x}}}}, "A", x})
		}
	}
	return append(out, &question{})
}

// eachList calls do for every list in v, which can be set, those within others last.
func eachList(v reflect.Value, do func(list reflect.Value)) {
	switch v.Kind() {
	case reflect.Slice:
		do(v)
		for k := range v.Len() {
			eachList(v.Index(k), do)
		}
	case reflect.Struct:
		for k := range v.NumField() {
			eachList(v.Field(k), do)
		}
	}
}

// spoil makes of v, an element of a list, another one, of which there is no
// account: a field that no type has, if it is a selection.
func spoil(v reflect.Value) {
	switch v.Kind() {
	case reflect.String:
		v.SetString("other")
	case reflect.Struct:
		v.SetZero()
		if name := v.FieldByName("Name"); name.IsValid() {
			name.SetString("other")
		}
	}
}

// room returns how a list is given memory of its own, with room for more elements,
// which hold something else.
func room(more int) func(list reflect.Value) {
	return func(list reflect.Value) {
		n := list.Len()
		own := reflect.MakeSlice(list.Type(), n+more, n+more)
		reflect.Copy(own, list)
		for k := n; k < n+more; k++ {
			spoil(own.Index(k))
		}
		list.Set(own.Slice3(0, n, n+more))
	}
}

// memory tells all of v, each list up to its capacity.
func memory(v reflect.Value) string {
	switch v.Kind() {
	case reflect.Slice:
		out := fmt.Sprint(v.Len(), "[")
		for k := range v.Cap() {
			out += memory(v.Slice(0, v.Cap()).Index(k)) + " "
		}
		return out + "]"
	case reflect.Struct:
		out := "{"
		for k := range v.NumField() {
			out += memory(v.Field(k)) + " "
		}
		return out + "}"
	}
	return fmt.Sprintf("%#v", v.Interface())
}

// R3, R4: nothing handed in is changed, up to its capacity; R5: what is told does not hang on memory, and is the same each time, whatever was asked in between.
func TestArgumentsStay(t *testing.T) {
	l := questions(t)
	var first []string
	for _, q := range l {
		first = append(first, q.answer())
	}
	for turn, change := range []func(list reflect.Value){func(list reflect.Value) {}, room(3), room(0), room(1)} {
		for k := range l {
			if turn == 1 {
				k = len(l) - 1 - k
			}
			v := reflect.ValueOf(l[k]).Elem()
			eachList(v, change)
			want := memory(v)
			if got := l[k].answer(); got != first[k] {
				t.Errorf("turn %d, question %d: %s, at first %s", turn, k, got, first[k])
			}
			if got := memory(v); got != want {
				t.Errorf("turn %d, question %d became %s, was %s", turn, k, got, want)
			}
		}
	}
}

// R4: nothing of a call is kept: what becomes afterwards of what was handed in counts.
func TestNothingIsKept(t *testing.T) {
	s := sound(t, world)
	d := read(t, "{a{...on N{id}...F}}fragment F on N{id}")
	judged(t, s, d, 0)
	a := d.Ops[0].Sels[0].Sels
	a[0].Sels[0].Name = "none"
	judged(t, s, d, 9)
	a[0].Sels[0].Name = "next"
	judged(t, s, d, 10)
	a[0].Sels[0].Name = "id"
	d.Frags[0].On = "C"
	judged(t, s, d, 11)
	d.Frags[0].On = "M"
	judged(t, s, d, 11)
	d.Frags[0].On = "U"
	judged(t, s, d, 9)
	d.Frags[0].Sels[0].Name = "__typename"
	judged(t, s, d, 0)
	d.Ops[0].Kind = api.Mutation
	judged(t, s, d, 0)
	d.Ops[0].Sels[0].Name = "b"
	judged(t, s, d, 9)
	s.Mutation, s.Query = s.Query, s.Mutation
	judged(t, s, d, 0)
	if got := fields.Root(s, d.Ops[0]); got != "Root" {
		t.Errorf("Root is %q", got)
	}
	within(t, s, "Root", d.Ops[0].Sels[0], "B")
	for k, f := range s.Defs[0].Fields {
		if f.Name == "b" {
			s.Defs[0].Fields[k].T.Name = "L"
		}
	}
	within(t, s, "Root", d.Ops[0].Sels[0], "L")
	judged(t, s, d, 11)
}

// R5: the same is told by several goroutines at once.
func TestAtOnce(t *testing.T) {
	l := questions(t)
	var first []string
	for _, q := range l {
		first = append(first, q.answer())
	}
	ends := make(chan string)
	for range 8 {
		go func() {
			out := ""
			for k, q := range l {
				if got := q.answer(); got != first[k] {
					out = fmt.Sprintf("question %d: %s, at first %s", k, got, first[k])
				}
			}
			ends <- out
		}()
	}
	for range 8 {
		if out := <-ends; out != "" {
			t.Error(out)
		}
	}
}
