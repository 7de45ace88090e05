package print

import (
	"seine/api"
	"seine/syntax"
)

// The words with which definitions begin.
const (
	queryWord    = "query"
	mutationWord = "mutation"
	fragmentWord = "fragment"
)

// writeDocument writes d. What is written, here and below, is Right.
func writeDocument(w *syntax.Writer, d api.Doc) {
	for _, op := range d.Ops {
		writeOperation(w, op)
	}
	for _, f := range d.Frags {
		writeFragment(w, f)
	}
}

func writeOperation(w *syntax.Writer, op api.Op) {
	if op.Kind == api.Mutation {
		w.Words(mutationWord)
	} else {
		w.Words(queryWord)
	}
	if op.Name != "" {
		w.Words(op.Name)
	}
	writeVariables(w, op.Vars)
	w.Directives(op.Dirs)
	writeBody(w, op.Sels)
}

func writeFragment(w *syntax.Writer, f api.Frag) {
	w.Words(fragmentWord, f.Name, onWord, f.On)
	w.Directives(f.Dirs)
	writeBody(w, f.Sels)
}

func writeVariables(w *syntax.Writer, l []api.VarDef) {
	if len(l) == 0 {
		return
	}
	w.Punct("(")
	for _, v := range l {
		w.Punct("$")
		w.Param(api.Param(v))
	}
	w.Punct(")")
}

// writeBody writes selections with the brackets around them.
func writeBody(w *syntax.Writer, l []api.Sel) {
	w.Punct("{")
	writeSelections(w, l)
	w.Punct("}")
}

func writeSelections(w *syntax.Writer, l []api.Sel) {
	open := [][]api.Sel{l} // what is left of the lists within one another, the innermost one last
lists:
	for len(open) > 0 {
		in := len(open) - 1
		for k, x := range open[in] {
			writeHead(w, x)
			if len(x.Sels) > 0 {
				w.Punct("{")
				open[in] = open[in][k+1:]
				open = append(open, x.Sels)
				continue lists
			}
		}
		open = open[:in]
		if in > 0 {
			w.Punct("}")
		}
	}
}

// writeHead writes a selection, up to what is within it.
func writeHead(w *syntax.Writer, x api.Sel) {
	if x.Kind != api.Field {
		w.Punct("...")
	}
	if x.On != "" {
		w.Words(onWord, x.On)
	}
	if x.Alias != "" {
		w.Words(x.Alias)
		w.Punct(":")
	}
	if x.Name != "" {
		w.Words(x.Name)
	}
	w.Arguments(x.Args)
	w.Directives(x.Dirs)
}
