package dirs_test

import (
	"fmt"
	"reflect"
	"testing"

	"seine/api"
	"seine/dirs"
)

// A question is what is handed in.
type question struct {
	S api.Schema
	D api.Doc
}

// answer is all that is told of q.
func (q *question) answer() string {
	out := ""
	for _, name := range names("skip include other") {
		p, is := dirs.Param(name)
		out += fmt.Sprintf("%+v %v ", p, is)
	}
	for n := 11; n < 16; n++ {
		out += fmt.Sprint(dirs.Rule(q.S, q.D, n), " ")
	}
	return out
}

// questions are of documents that keep all rules, of others, and of such as are
// not Right.
func questions(t *testing.T) []*question {
	s := sound(t, world)
	l := samples(t)
	for k, host := range hosts() {
		for _, dirs := range names("@skip(if:true)@include(if:{a:[1]}) @skip@include@skip @other @skip@x(y:1)@skip") {
			l = append(l, read(t, filled(host, map[int]string{k % len(places(host)): dirs})))
		}
	}
	var out []*question
	for _, d := range l {
		out = append(out, &question{s, d})
	}
	for k, x := range odds(api.Value{Kind: api.List, L: []api.Value{{}, {}}}) {
		if k%16 < 2 {
			out = append(out, &question{api.Schema{Query: "A"}, api.Doc{Ops: []api.Op{{Kind: k % 3, Dirs: x.Dirs, Sels: []api.Sel{x}}}, Frags: []api.Frag{{Name: "A", On: "A", Sels: []api.Sel{x}}}}})
		}
	}
	return append(out, &question{})
}

// eachList calls do for every list in v, which can be set, those within others last.
func eachList(v reflect.Value, do func(list reflect.Value)) {
	switch v.Kind() {
	case reflect.Slice:
		do(v)
		for k := range v.Len() {
			eachList(v.Index(k), do)
		}
	case reflect.Struct:
		for k := range v.NumField() {
			eachList(v.Field(k), do)
		}
	}
}

// spoil makes of v, an element of a list, another one: a directive that there is
// none of, if it is one, or a selection that has such a one twice.
func spoil(v reflect.Value) {
	switch v.Kind() {
	case reflect.String:
		v.SetString("other")
	case reflect.Struct:
		v.SetZero()
		if name := v.FieldByName("Name"); name.IsValid() {
			name.SetString("other")
		}
		if l := v.FieldByName("Dirs"); l.IsValid() {
			l.Set(reflect.ValueOf([]api.Dir{{Name: "other"}, {Name: "other"}}))
		}
	}
}

// room returns how a list is given memory of its own, with room for more elements,
// which hold something else.
func room(more int) func(list reflect.Value) {
	return func(list reflect.Value) {
		n := list.Len()
		own := reflect.MakeSlice(list.Type(), n+more, n+more)
		reflect.Copy(own, list)
		for k := n; k < n+more; k++ {
			spoil(own.Index(k))
		}
		list.Set(own.Slice3(0, n, n+more))
	}
}

// memory tells all of v, each list up to its capacity.
func memory(v reflect.Value) string {
	switch v.Kind() {
	case reflect.Slice:
		out := fmt.Sprint(v.Len(), "[")
		for k := range v.Cap() {
			out += memory(v.Slice(0, v.Cap()).Index(k)) + " "
		}
		return out + "]"
	case reflect.Struct:
		out := "{"
		for k := range v.NumField() {
			out += memory(v.Field(k)) + " "
		}
		return out + "}"
	}
	return fmt.Sprintf("%#v", v.Interface())
}

// R3, R4: nothing handed in is changed, up to its capacity; R5: what is told does not hang on memory, and is the same each time, whatever was asked in between.
func TestArgumentsStay(t *testing.T) {
	l := questions(t)
	var first []string
	for _, q := range l {
		first = append(first, q.answer())
	}
	for turn, change := range []func(list reflect.Value){func(list reflect.Value) {}, room(3), room(0), room(1)} {
		for k := range l {
			if turn == 1 {
				k = len(l) - 1 - k
			}
			v := reflect.ValueOf(l[k]).Elem()
			eachList(v, change)
			want := memory(v)
			if got := l[k].answer(); got != first[k] {
				t.Errorf("turn %d, question %d: %s, at first %s", turn, k, got, first[k])
			}
			if got := memory(v); got != want {
				t.Errorf("turn %d, question %d became %s, was %s", turn, k, got, want)
			}
		}
	}
}

// R4: nothing of a call is kept: what becomes afterwards of what was handed in counts.
func TestNothingIsKept(t *testing.T) {
	s := sound(t, world)
	d := read(t, "{b@skip{...on Query@skip@include{...F@skip}}}fragment F on Query{a@include}")
	judged(t, s, d, 0)
	l := d.Ops[0].Sels[0].Sels[0].Dirs
	l[1].Name = "skip"
	judged(t, s, d, 14)
	l[0].Name = "include"
	judged(t, s, d, 0)
	l[0].Name = "Include"
	judged(t, s, d, 12)
	l[0].Name, l[1].Name = "skip", "include"
	judged(t, s, d, 0)
	d.Frags[0].Dirs = l
	judged(t, s, d, 13)
	d.Frags[0].Dirs = l[:0]
	judged(t, s, d, 0)
	d.Frags[0].Sels[0].Dirs[0].Name = "none"
	judged(t, s, d, 12)
	d.Frags[0].Sels[0].Dirs = append(l, l...)
	judged(t, s, d, 14)
}

// P15.1: what becomes of a Param that was answered matters to no later one.
func TestParamIsOwn(t *testing.T) {
	for _, name := range names("skip include skip include") {
		p, _ := dirs.Param(name)
		p.Name, p.T.Name, p.T.Musts, p.Has = "other", "Int", 3, true
		p.Default.L = append(p.Default.L, p.Default)
		p.Default.M = append(p.Default.M[:cap(p.Default.M)], api.Member{Name: name})
		param(t, "skip", true)
		param(t, "include", true)
	}
}

// R5: the same is told by several goroutines at once.
func TestAtOnce(t *testing.T) {
	l := questions(t)
	var first []string
	for _, q := range l {
		first = append(first, q.answer())
	}
	ends := make(chan string)
	for range 8 {
		go func() {
			out := ""
			for k, q := range l {
				if got := q.answer(); got != first[k] {
					out = fmt.Sprintf("question %d: %s, at first %s", k, got, first[k])
				}
			}
			ends <- out
		}()
	}
	for range 8 {
		if out := <-ends; out != "" {
			t.Error(out)
		}
	}
}
