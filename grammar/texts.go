package grammar

import (
	"iter"
	"slices"

	"seine/api"
)

// Texts yields every text that begins with these tokens, goes on with at most more
// pieces and could go on behind the last of them, with the error that it must have
// where a symbol is to be read; and each of these with a piece that is wrong there
// and one of the tails, which must not matter. Nothing is yielded if the beginning
// is wrong itself.
func (g *Grammar) Texts(symbol string, begin []api.Token, more int, pieces []api.Token, tails ...[]api.Token) iter.Seq2[[]api.Token, api.Errno] {
	var grow func(p place, text []api.Token, more int, yield func([]api.Token, api.Errno) bool) bool
	grow = func(p place, text []api.Token, more int, yield func([]api.Token, api.Errno) bool) bool {
		if !yield(text, p.end()) {
			return false
		}
		for _, x := range pieces {
			longer := append(slices.Clip(text), x)
			next, e := p.next(x)
			if e == api.OK && more > 0 && !grow(next, longer, more-1, yield) {
				return false
			}
			for k := 0; e != api.OK && k < len(tails); k++ {
				if !yield(slices.Concat(longer, tails[k]), e) {
					return false
				}
			}
		}
		return true
	}
	return func(yield func([]api.Token, api.Errno) bool) {
		if p, e := g.start(symbol).after(begin); e == api.OK {
			grow(p, slices.Clone(begin), more, yield)
		}
	}
}

// Changed yields a text, and the text twice; with each of its tokens left out,
// doubled, swapped with the next one, replaced by each of the pieces and behind
// each of them; cut off ahead of each token; and with each piece at its end.
func Changed(text, pieces []api.Token) iter.Seq[[]api.Token] {
	return func(yield func([]api.Token) bool) {
		made := func(parts ...[]api.Token) bool { return yield(slices.Concat(parts...)) }
		if !made(text) || !made(text, text) {
			return
		}
		for k := range len(text) {
			head, at, rest := text[:k], text[k:k+1], text[k+1:]
			next := rest[:min(1, len(rest))]
			if !made(head) || !made(head, rest) || !made(head, at, at, rest) || !made(head, next, at, rest[len(next):]) {
				return
			}
			for _, x := range pieces {
				if !made(head, []api.Token{x}, at, rest) || !made(head, []api.Token{x}, rest) {
					return
				}
			}
		}
		for _, x := range pieces {
			if !made(text, []api.Token{x}) {
				return
			}
		}
	}
}
