// Package syntax reads, checks and writes what documents and schemas have in
// common: names, types, values, parameters, arguments and directives.
package syntax

import (
	"seine/api"
	"seine/token"
)

// A Refusal is what a function panics with that finds a token that is not
// allowed at its place.
type Refusal struct{ E api.Errno }

// A Reader goes through tokens from the left. Its methods panic with a Refusal.
type Reader struct {
	rest []api.Token
	deep int // how many brackets of selections and of values are open
}

// Whole returns what read makes of all the tokens of s, or the error.
func Whole[T any](s string, read func(r *Reader) T) (out T, e api.Errno) {
	l, e := token.Read(s)
	if e != api.OK {
		return out, e
	}
	defer func() {
		switch x := recover().(type) {
		case nil:
		case Refusal:
			e = x.E
		default:
			panic(x)
		}
	}()
	r := &Reader{rest: l}
	made := read(r)
	if !r.Ended() {
		panic(Refusal{api.ErrForm})
	}
	return made, api.OK
}

// Series returns one or more elements that one reads, up to the Punct that ends
// them.
func Series[T any](r *Reader, end string, one func(r *Reader) T) []T {
	var l []T
	for {
		l = append(l, one(r))
		if r.Skip(api.Punct, end) {
			return l
		}
	}
}

// Ended reports whether no token is left.
func (r *Reader) Ended() bool { return len(r.rest) == 0 }

// At reports whether the next token is this one.
func (r *Reader) At(kind int, s string) bool {
	return !r.Ended() && r.rest[0] == api.Token{Kind: kind, S: s}
}

// AtKind reports whether the next token is of this kind.
func (r *Reader) AtKind(kind int) bool { return !r.Ended() && r.rest[0].Kind == kind }

// Take passes the next token, of whatever kind, and returns it.
func (r *Reader) Take() api.Token {
	if r.Ended() {
		panic(Refusal{api.ErrForm})
	}
	t := r.rest[0]
	r.rest = r.rest[1:]
	return t
}

// Skip passes the next token if it is this one, and reports whether it is.
func (r *Reader) Skip(kind int, s string) bool {
	is := r.At(kind, s)
	if is {
		r.Take()
	}
	return is
}

// Need passes the next token, which has to be this one.
func (r *Reader) Need(kind int, s string) {
	if !r.Skip(kind, s) {
		panic(Refusal{api.ErrForm})
	}
}

// Name passes the next token, which has to be a name, and returns it.
func (r *Reader) Name() string {
	t := r.Take()
	if t.Kind != api.Word {
		panic(Refusal{api.ErrForm})
	}
	return t.S
}

// Enter passes the bracket that opens selections or a value.
func (r *Reader) Enter(bracket string) {
	if r.At(api.Punct, bracket) && r.deep == api.MaxDeep {
		panic(Refusal{api.ErrDeep})
	}
	r.Need(api.Punct, bracket)
	r.deep++
}

// Leave notes that what Enter opened is closed.
func (r *Reader) Leave() { r.deep-- }
