package print

import (
	"seine/api"
	"seine/letters"
	"seine/syntax"
)

// onWord stands ahead of a type, so that no fragment may have it as its name.
const onWord = "on"

func operation(op api.Op) bool {
	own := syntax.Outside()
	return (op.Kind == api.Query || op.Kind == api.Mutation) && syntax.NameOrNone(op.Name) &&
		syntax.All(op.Vars, variable) && syntax.All(op.Dirs, own.Directive) && body(op.Sels)
}

func fragment(f api.Frag) bool {
	own := syntax.Outside()
	return fragmentName(f.Name) && letters.Name(f.On) &&
		syntax.All(f.Dirs, own.Directive) && body(f.Sels)
}

// variable holds v against what a parameter may be, since they differ only by the
// `$` that is written ahead of a variable.
func variable(v api.VarDef) bool { return syntax.RightParam(api.Param(v)) }

func fragmentName(s string) bool { return letters.Name(s) && s != onWord }

// A place is where selections stand, and what they have of values and directives.
type place struct{ syntax.Place }

// body reports whether l may be all selections of an operation or of a fragment.
func body(l []api.Sel) bool { return place{}.selections(l) }

// selections reports whether l, with brackets around it, may stand at p.
func (p place) selections(l []api.Sel) bool {
	in := place{syntax.Place{Deep: p.Deep + 1}}
	return len(l) > 0 && in.Deep <= api.MaxDeep && syntax.All(l, in.selection)
}

func (p place) selection(x api.Sel) bool {
	if !syntax.All(x.Dirs, p.Directive) {
		return false
	}
	switch x.Kind {
	case api.Field:
		return syntax.NameOrNone(x.Alias) && letters.Name(x.Name) && syntax.All(x.Args, p.Argument) &&
			x.On == "" && (len(x.Sels) == 0 || p.selections(x.Sels))
	case api.Spread:
		return x.Alias == "" && fragmentName(x.Name) && len(x.Args) == 0 &&
			x.On == "" && len(x.Sels) == 0
	case api.Inline:
		return x.Alias == "" && x.Name == "" && len(x.Args) == 0 &&
			syntax.NameOrNone(x.On) && p.selections(x.Sels)
	}
	return false
}
