package syntax

import (
	"seine/api"
	"seine/token"
	"seine/value"
	"seine/wrap"
)

// A Writer collects tokens. What it is given to write may stand in a text.
type Writer struct{ l []api.Token }

// Tokens returns what was written.
func (w *Writer) Tokens() []api.Token { return w.l }

// Text returns what was written as a text, and true; false if that is too long to
// be read.
func (w *Writer) Text() (string, bool) {
	s, _ := token.Print(w.l...)
	if len(s) > api.MaxText {
		return "", false
	}
	return s, true
}

// Punct writes a Punct.
func (w *Writer) Punct(s string) { w.l = append(w.l, api.Token{Kind: api.Punct, S: s}) }

// Words writes names.
func (w *Writer) Words(l ...string) {
	for _, s := range l {
		w.l = append(w.l, api.Token{Kind: api.Word, S: s})
	}
}

// Directives writes any number of directives.
func (w *Writer) Directives(l []api.Dir) {
	for _, d := range l {
		w.Punct("@")
		w.Words(d.Name)
		w.Arguments(d.Args)
	}
}

// Arguments writes arguments if there are any.
func (w *Writer) Arguments(l []api.Member) {
	if len(l) == 0 {
		return
	}
	w.Punct("(")
	for _, m := range l {
		w.Words(m.Name)
		w.Punct(":")
		w.value(m.V)
	}
	w.Punct(")")
}

// Param writes a parameter: a name, a type and maybe a default.
func (w *Writer) Param(x api.Param) {
	w.Words(x.Name)
	w.Punct(":")
	w.Type(x.T)
	if x.Has {
		w.Punct("=")
		w.value(x.Default)
	}
}

// Type writes a type.
func (w *Writer) Type(t api.Type) {
	if item, is := wrap.Item(t); is {
		w.Punct("[")
		w.Type(item)
		w.Punct("]")
	} else {
		w.Words(t.Name)
	}
	if wrap.Is(t) {
		w.Punct("!")
	}
}

func (w *Writer) value(v api.Value) {
	l, _ := value.Tokens(v)
	w.l = append(w.l, l...)
}
