package print

import (
	"seine/api"
	"seine/value"
	"seine/wrap"
)

// The words with which definitions begin.
const (
	queryWord    = "query"
	mutationWord = "mutation"
	fragmentWord = "fragment"
)

// writeOperation appends the tokens of op. What is written, here and below, is
// Right.
func writeOperation(out []api.Token, op api.Op) []api.Token {
	if op.Kind == api.Mutation {
		out = append(out, word(mutationWord))
	} else {
		out = append(out, word(queryWord))
	}
	if op.Name != "" {
		out = append(out, word(op.Name))
	}
	out = writeVariables(out, op.Vars)
	out = writeDirectives(out, op.Dirs)
	return writeBody(out, op.Sels)
}

func writeFragment(out []api.Token, f api.Frag) []api.Token {
	out = append(out, word(fragmentWord), word(f.Name), word(onWord), word(f.On))
	out = writeDirectives(out, f.Dirs)
	return writeBody(out, f.Sels)
}

func writeVariables(out []api.Token, l []api.VarDef) []api.Token {
	if len(l) == 0 {
		return out
	}
	out = append(out, punct("("))
	for _, v := range l {
		out = append(out, punct("$"), word(v.Name), punct(":"))
		out = writeType(out, v.T)
		if v.Has {
			out = writeValue(append(out, punct("=")), v.Default)
		}
	}
	return append(out, punct(")"))
}

func writeType(out []api.Token, t api.Type) []api.Token {
	if item, is := wrap.Item(t); is {
		out = writeType(append(out, punct("[")), item)
		out = append(out, punct("]"))
	} else {
		out = append(out, word(t.Name))
	}
	if wrap.Is(t) {
		out = append(out, punct("!"))
	}
	return out
}

// writeBody appends the tokens of selections with the brackets around them.
func writeBody(out []api.Token, l []api.Sel) []api.Token {
	out = writeSelections(append(out, punct("{")), l)
	return append(out, punct("}"))
}

func writeSelections(out []api.Token, l []api.Sel) []api.Token {
	open := [][]api.Sel{l} // what is left of the lists within one another, the innermost one last
lists:
	for len(open) > 0 {
		in := len(open) - 1
		for k, x := range open[in] {
			out = writeHead(out, x)
			if len(x.Sels) > 0 {
				out = append(out, punct("{"))
				open[in] = open[in][k+1:]
				open = append(open, x.Sels)
				continue lists
			}
		}
		open = open[:in]
		if in > 0 {
			out = append(out, punct("}"))
		}
	}
	return out
}

// writeHead appends the tokens of a selection, up to what is within it.
func writeHead(out []api.Token, x api.Sel) []api.Token {
	if x.Kind != api.Field {
		out = append(out, punct("..."))
	}
	if x.On != "" {
		out = append(out, word(onWord), word(x.On))
	}
	if x.Alias != "" {
		out = append(out, word(x.Alias), punct(":"))
	}
	if x.Name != "" {
		out = append(out, word(x.Name))
	}
	out = writeArguments(out, x.Args)
	return writeDirectives(out, x.Dirs)
}

func writeDirectives(out []api.Token, l []api.Dir) []api.Token {
	for _, d := range l {
		out = append(out, punct("@"), word(d.Name))
		out = writeArguments(out, d.Args)
	}
	return out
}

func writeArguments(out []api.Token, l []api.Member) []api.Token {
	if len(l) == 0 {
		return out
	}
	out = append(out, punct("("))
	for _, m := range l {
		out = writeValue(append(out, word(m.Name), punct(":")), m.V)
	}
	return append(out, punct(")"))
}

func writeValue(out []api.Token, v api.Value) []api.Token {
	l, _ := value.Tokens(v)
	return append(out, l...)
}

func word(s string) api.Token { return api.Token{Kind: api.Word, S: s} }

func punct(s string) api.Token { return api.Token{Kind: api.Punct, S: s} }
