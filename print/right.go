package print

import (
	"seine/api"
	"seine/letters"
	"seine/value"
	"seine/wrap"
)

// onWord stands ahead of a type, so that no fragment may have it as its name.
const onWord = "on"

// A place is where selections, directives and values stand.
type place struct {
	deep  int  // how many brackets of selections are open around it
	fixed bool // values have no Var there
}

// own is where defaults stand, the directives of an operation itself and of a
// fragment itself, and the bracket that opens its selections; what stands within
// these is not fixed.
func own() place { return place{fixed: true} }

func operation(op api.Op) bool {
	return (op.Kind == api.Query || op.Kind == api.Mutation) && nameOrNone(op.Name) &&
		all(op.Vars, variable) && all(op.Dirs, own().directive) && own().selections(op.Sels)
}

func fragment(f api.Frag) bool {
	return fragmentName(f.Name) && letters.Name(f.On) &&
		all(f.Dirs, own().directive) && own().selections(f.Sels)
}

func variable(v api.VarDef) bool {
	return letters.Name(v.Name) && wrap.Right(v.T) && own().value(v.Default) &&
		(v.Has || value.Same(v.Default, api.Value{}))
}

func nameOrNone(s string) bool { return s == "" || letters.Name(s) }

func fragmentName(s string) bool { return letters.Name(s) && s != onWord }

// all reports whether is holds for every element of l.
func all[T any](l []T, is func(x T) bool) bool {
	for _, x := range l {
		if !is(x) {
			return false
		}
	}
	return true
}

// selections reports whether l, with brackets around it, may stand at p.
func (p place) selections(l []api.Sel) bool {
	in := place{deep: p.deep + 1}
	return len(l) > 0 && in.deep <= api.MaxDeep && all(l, in.selection)
}

func (p place) selection(x api.Sel) bool {
	if !all(x.Dirs, p.directive) {
		return false
	}
	switch x.Kind {
	case api.Field:
		return nameOrNone(x.Alias) && letters.Name(x.Name) && all(x.Args, p.argument) &&
			x.On == "" && (len(x.Sels) == 0 || p.selections(x.Sels))
	case api.Spread:
		return x.Alias == "" && fragmentName(x.Name) && len(x.Args) == 0 &&
			x.On == "" && len(x.Sels) == 0
	case api.Inline:
		return x.Alias == "" && x.Name == "" && len(x.Args) == 0 &&
			nameOrNone(x.On) && p.selections(x.Sels)
	}
	return false
}

func (p place) directive(d api.Dir) bool {
	return letters.Name(d.Name) && all(d.Args, p.argument)
}

func (p place) argument(m api.Member) bool { return letters.Name(m.Name) && p.value(m.V) }

func (p place) value(v api.Value) bool {
	return value.Plain(v) && p.deep+value.Depth(v) <= api.MaxDeep &&
		!(p.fixed && len(value.Vars(v)) > 0)
}
