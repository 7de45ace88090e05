package value

import (
	"strconv"

	"seine/api"
	"seine/token"
)

// Tokens returns the tokens of v as it is written in a document; false unless v
// is Plain.
func Tokens(v api.Value) ([]api.Token, bool) {
	if !Plain(v) {
		return nil, false
	}
	return write(nil, v), true
}

// write appends the tokens of v, which is Plain.
func write(l []api.Token, v api.Value) []api.Token {
	switch v.Kind {
	case api.Null:
		l = append(l, word(nullWord))
	case api.Bool:
		l = append(l, truth(v.N))
	case api.Int:
		l = append(l, api.Token{Kind: api.Digits, S: strconv.FormatInt(v.N, 10)})
	case api.Num:
		l = append(l, api.Token{Kind: token.Number(v.S), S: v.S})
	case api.Text:
		l = append(l, api.Token{Kind: api.Quote, S: v.S})
	case api.Enum:
		l = append(l, word(v.S))
	case api.Var:
		l = append(l, punct("$"), word(v.S))
	case api.List:
		l = append(l, punct("["))
		for _, x := range v.L {
			l = write(l, x)
		}
		l = append(l, punct("]"))
	case api.Map:
		l = append(l, punct("{"))
		for _, m := range v.M {
			l = write(append(l, word(m.Name), punct(":")), m.V)
		}
		l = append(l, punct("}"))
	}
	return l
}

func truth(n int64) api.Token {
	if n == 1 {
		return word(trueWord)
	}
	return word(falseWord)
}

func word(s string) api.Token { return api.Token{Kind: api.Word, S: s} }

func punct(s string) api.Token { return api.Token{Kind: api.Punct, S: s} }
