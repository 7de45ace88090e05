package bind_test

import (
	"fmt"
	"reflect"
	"testing"

	"seine/api"
	"seine/bind"
)

// A question is what is handed in.
type question struct {
	S   api.Schema
	Typ string
	F   api.FieldDef
}

// answer is all that is told of q.
func (q *question) answer() string {
	b, ok := bind.Of(q.S, q.Typ, q.F)
	return fmt.Sprintf("%+v %v %v", b, ok, bind.Check(q.S))
}

// questions are of schemas that can be served and of others, and of each of their
// fields: some of them are lists of the schema, some are not.
func questions(t *testing.T) []*question {
	var out []*question
	for _, text := range []string{whole, world, "type Query{a:Int}", "type Query{a:Query}", "type A{a:Int@x@x}", "type Query{a(x:I=1):Int@do(cmd:'put' table:[['x']{a:'b'}])}input I{a:I!}"} {
		s := read(t, text)
		for _, d := range s.Defs {
			for _, f := range d.Fields {
				out = append(out, &question{s, d.Name, f}, &question{read(t, text), "Query", f})
			}
		}
		for _, x := range samples() {
			out = append(out, &question{s, "Query", field(t, x.text)}, &question{s, "Do", field(t, x.text)})
		}
	}
	return append(out, &question{}, &question{F: api.FieldDef{Dirs: []api.Dir{{}, {}}, Params: []api.Param{{}}}})
}

// eachList calls do for every list in v, which can be set, those within others last.
func eachList(v reflect.Value, do func(list reflect.Value)) {
	switch v.Kind() {
	case reflect.Slice:
		do(v)
		for k := range v.Len() {
			eachList(v.Index(k), do)
		}
	case reflect.Struct:
		for k := range v.NumField() {
			eachList(v.Field(k), do)
		}
	}
}

// spoil makes of v another one.
func spoil(v reflect.Value) {
	switch v.Kind() {
	case reflect.String:
		v.SetString("other")
	case reflect.Int, reflect.Int64:
		v.SetInt(api.Text)
	case reflect.Struct:
		for k := range v.NumField() {
			spoil(v.Field(k))
		}
	}
}

// room returns how a list is given memory of its own, with room for more elements,
// which hold something else.
func room(more int) func(list reflect.Value) {
	return func(list reflect.Value) {
		n := list.Len()
		own := reflect.MakeSlice(list.Type(), n+more, n+more)
		reflect.Copy(own, list)
		for k := n; k < n+more; k++ {
			spoil(own.Index(k))
		}
		list.Set(own.Slice3(0, n, n+more))
	}
}

// memory tells all of v, each list up to its capacity.
func memory(v reflect.Value) string {
	out := ""
	switch v.Kind() {
	case reflect.Slice:
		out = fmt.Sprint(v.Len())
		for k := range v.Cap() {
			out += " [" + memory(v.Slice(0, v.Cap()).Index(k)) + "]"
		}
	case reflect.Struct:
		for k := range v.NumField() {
			out += " {" + memory(v.Field(k)) + "}"
		}
	default:
		out = fmt.Sprintf("%#v", v.Interface())
	}
	return out
}

// R3, R4: nothing handed in is changed, up to its capacity; R5: what is told does not hang on memory, and is the same each time, whatever was asked in between.
func TestArgumentsStay(t *testing.T) {
	l := questions(t)
	var first []string
	for _, q := range l {
		first = append(first, q.answer())
	}
	for turn, change := range []func(list reflect.Value){func(list reflect.Value) {}, room(3), room(0), room(1)} {
		for k := range l {
			if turn == 1 {
				k = len(l) - 1 - k
			}
			v := reflect.ValueOf(l[k]).Elem()
			eachList(v, change)
			want := memory(v)
			if got := l[k].answer(); got != first[k] {
				t.Errorf("%+v: told %s, then %s", l[k], first[k], got)
			}
			if got := memory(v); got != want {
				t.Errorf("%s became %s", want, got)
			}
		}
	}
}

// R4: nothing of a call is kept: what becomes afterwards of what was handed in counts.
func TestNothingIsKept(t *testing.T) {
	s := read(t, whole)
	f := field(t, "a:A@link(table:'t' col:'c')")
	is(t, s, "Query", f, byLink("t", "c"))
	serves(t, s, true)
	f.Dirs[0].Args[0].V.S = "u"
	is(t, s, "Query", f, byLink("u", "c"))
	f.Dirs[0].Args[1].V.S = ""
	no(t, s, "Query", f)
	f.Dirs = f.Dirs[:0]
	no(t, s, "Query", f)
	f.T.Name = "Int"
	is(t, s, "Query", f, byCol("a"))
	s.Mutation = "Query"
	no(t, s, "Query", f)
	s.Mutation = "Do"
	serves(t, s, true)
	s.Defs[0].Fields[2].Dirs[0].Args[1].Name = "x"
	serves(t, s, false)
	s.Defs[0].Fields[2].Dirs[0].Args[1].Name = "col"
	serves(t, s, true)
	s.Defs[0].Fields[2].T.Name = "E"
	serves(t, s, false)
	s.Defs[0].Fields[2].T.Name = "B"
	serves(t, s, true)
}

// R5: the same is told by several goroutines at once.
func TestAtOnce(t *testing.T) {
	l := questions(t)
	var first []string
	for _, q := range l {
		first = append(first, q.answer())
	}
	ends := make(chan string)
	for range 8 {
		go func() {
			out := ""
			for k, q := range l {
				if got := q.answer(); got != first[k] {
					out = fmt.Sprintf("%+v is told %s, was %s", q, got, first[k])
				}
			}
			ends <- out
		}()
	}
	for range 8 {
		if out := <-ends; out != "" {
			t.Error(out)
		}
	}
}
