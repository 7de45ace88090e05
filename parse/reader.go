package parse

import (
	"seine/api"
	"seine/token"
)

// A refusal is what a function panics with that finds a token that is not
// allowed at its place.
type refusal struct{ e api.Errno }

// A reader goes through tokens from the left.
type reader struct {
	rest []api.Token
	deep int // how many brackets of selections and of values are open
}

// whole returns what read makes of all the tokens of s, or the error.
func whole[T any](s string, read func(r *reader) T) (out T, e api.Errno) {
	l, e := token.Read(s)
	if e != api.OK {
		return out, e
	}
	defer func() {
		switch x := recover().(type) {
		case nil:
		case refusal:
			e = x.e
		default:
			panic(x)
		}
	}()
	r := &reader{rest: l}
	made := read(r)
	if !r.ended() {
		panic(refusal{api.ErrForm})
	}
	return made, api.OK
}

// series returns one or more elements that one reads, up to the Punct that ends
// them.
func series[T any](r *reader, end string, one func() T) []T {
	var l []T
	for {
		l = append(l, one())
		if r.skip(api.Punct, end) {
			return l
		}
	}
}

func (r *reader) ended() bool { return len(r.rest) == 0 }

// at reports whether the next token is this one.
func (r *reader) at(kind int, s string) bool {
	return !r.ended() && r.rest[0] == api.Token{Kind: kind, S: s}
}

func (r *reader) atWord() bool { return !r.ended() && r.rest[0].Kind == api.Word }

// take passes the next token, of whatever kind, and returns it.
func (r *reader) take() api.Token {
	if r.ended() {
		panic(refusal{api.ErrForm})
	}
	t := r.rest[0]
	r.rest = r.rest[1:]
	return t
}

// skip passes the next token if it is this one, and reports whether it is.
func (r *reader) skip(kind int, s string) bool {
	is := r.at(kind, s)
	if is {
		r.take()
	}
	return is
}

// need passes the next token, which has to be this one.
func (r *reader) need(kind int, s string) {
	if !r.skip(kind, s) {
		panic(refusal{api.ErrForm})
	}
}

func (r *reader) name() string {
	t := r.take()
	if t.Kind != api.Word {
		panic(refusal{api.ErrForm})
	}
	return t.S
}

// enter passes the bracket that opens selections or a value.
func (r *reader) enter(bracket string) {
	if r.at(api.Punct, bracket) && r.deep == api.MaxDeep {
		panic(refusal{api.ErrDeep})
	}
	r.need(api.Punct, bracket)
	r.deep++
}

// leave notes that what enter opened is closed.
func (r *reader) leave() { r.deep-- }
