package sdl

import (
	"seine/api"
	"seine/syntax"
)

// writeSchema writes s. What is written, here and below, is Right.
func writeSchema(w *syntax.Writer, s api.Schema) {
	writeOperations(w, s)
	for _, d := range s.Defs {
		writeDefinition(w, d)
	}
}

// writeOperations writes the definition of the schema itself.
func writeOperations(w *syntax.Writer, s api.Schema) {
	w.Words(schemaWord)
	w.Punct("{")
	w.Words(queryWord)
	w.Punct(":")
	w.Words(s.Query)
	if s.Mutation != "" {
		w.Words(mutationWord)
		w.Punct(":")
		w.Words(s.Mutation)
	}
	w.Punct("}")
}

func writeDefinition(w *syntax.Writer, d api.Def) {
	w.Words(kindWord(d.Kind), d.Name)
	if len(d.Faces) > 0 {
		w.Words(implementsWord)
		writeNames(w, "&", d.Faces)
	}
	if d.Kind == api.Union {
		w.Punct("=")
		writeNames(w, "|", d.Parts)
		return
	}
	w.Punct("{")
	for _, f := range d.Fields {
		writeField(w, f)
	}
	if d.Kind == api.Enums {
		w.Words(d.Parts...)
	}
	writeParams(w, d.Params)
	w.Punct("}")
}

// writeNames writes names with a Punct between them.
func writeNames(w *syntax.Writer, between string, l []string) {
	for k, s := range l {
		if k > 0 {
			w.Punct(between)
		}
		w.Words(s)
	}
}

func writeField(w *syntax.Writer, f api.FieldDef) {
	w.Words(f.Name)
	if len(f.Params) > 0 {
		w.Punct("(")
		writeParams(w, f.Params)
		w.Punct(")")
	}
	w.Punct(":")
	w.Type(f.T)
	w.Directives(f.Dirs)
}

func writeParams(w *syntax.Writer, l []api.Param) {
	for _, x := range l {
		w.Param(x)
	}
}
