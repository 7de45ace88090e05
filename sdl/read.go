package sdl

import (
	"slices"

	"seine/api"
	"seine/syntax"
)

func readSchema(r *syntax.Reader) api.Schema {
	var s api.Schema
	told := false // there was a definition of the schema
	for {
		skipRemark(r)
		if !told && r.Skip(api.Word, schemaWord) {
			told = true
			s.Query, s.Mutation = readOperations(r)
		} else {
			s.Defs = append(s.Defs, readDefinition(r))
		}
		if r.Ended() {
			break
		}
	}
	if !told {
		s.Query, s.Mutation = untold(s.Defs)
	}
	return s
}

// untold returns the names that operations have where none are told.
func untold(l []api.Def) (query, mutation string) {
	if slices.ContainsFunc(l, func(d api.Def) bool { return d.Name == mutationName }) {
		mutation = mutationName
	}
	return queryName, mutation
}

// skipRemark passes a text that may precede what is defined.
func skipRemark(r *syntax.Reader) {
	if r.AtKind(api.Quote) {
		r.Take()
	}
}

// readOperations reads what stands behind the first word of the definition of a schema.
func readOperations(r *syntax.Reader) (query, mutation string) {
	r.Need(api.Punct, "{")
	r.Need(api.Word, queryWord)
	r.Need(api.Punct, ":")
	query = r.Name()
	if r.Skip(api.Word, mutationWord) {
		r.Need(api.Punct, ":")
		mutation = r.Name()
	}
	r.Need(api.Punct, "}")
	return query, mutation
}

func readDefinition(r *syntax.Reader) api.Def {
	d := api.Def{Kind: kindOf(r.Name())}
	d.Name = r.Name()
	switch d.Kind {
	case api.Object, api.Face:
		if r.Skip(api.Word, implementsWord) {
			d.Faces = readNames(r, "&")
		}
		r.Need(api.Punct, "{")
		d.Fields = syntax.Series(r, "}", readField)
	case api.Union:
		r.Need(api.Punct, "=")
		d.Parts = readNames(r, "|")
	case api.Enums:
		r.Need(api.Punct, "{")
		d.Parts = syntax.Series(r, "}", readEnumValue)
	case api.Input:
		r.Need(api.Punct, "{")
		d.Params = syntax.Series(r, "}", readParam)
	}
	return d
}

// kindOf returns the kind of the definitions that begin with a word.
func kindOf(word string) int {
	for k := api.Object; k <= api.Input; k++ {
		if kindWord(k) == word {
			return k
		}
	}
	panic(syntax.Refusal{E: api.ErrForm})
}

// readNames reads one or more names with a Punct between them, and maybe ahead.
func readNames(r *syntax.Reader, between string) []string {
	r.Skip(api.Punct, between)
	l := []string{r.Name()}
	for r.Skip(api.Punct, between) {
		l = append(l, r.Name())
	}
	return l
}

func readField(r *syntax.Reader) api.FieldDef {
	skipRemark(r)
	f := api.FieldDef{Name: r.Name()}
	if r.Skip(api.Punct, "(") {
		f.Params = syntax.Series(r, ")", readParam)
	}
	r.Need(api.Punct, ":")
	f.T = r.Type()
	f.Dirs = r.Directives(true)
	return f
}

func readParam(r *syntax.Reader) api.Param {
	skipRemark(r)
	return r.Param()
}

func readEnumValue(r *syntax.Reader) string {
	skipRemark(r)
	s := r.Name()
	if !rightEnumValue(s) {
		panic(syntax.Refusal{E: api.ErrForm})
	}
	return s
}
