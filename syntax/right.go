package syntax

import (
	"seine/api"
	"seine/letters"
	"seine/value"
	"seine/wrap"
)

// A Place is where values and directives stand.
type Place struct {
	Deep  int  // how many brackets of selections are open around it
	Fixed bool // values have no Var there
}

// Outside is where defaults stand, and the directives of definitions and of their
// fields.
func Outside() Place { return Place{Fixed: true} }

// Value reports whether v may stand at p.
func (p Place) Value(v api.Value) bool {
	return value.Plain(v) && p.Deep+value.Depth(v) <= api.MaxDeep &&
		!(p.Fixed && len(value.Vars(v)) > 0)
}

// Argument reports whether m may stand at p.
func (p Place) Argument(m api.Member) bool { return letters.Name(m.Name) && p.Value(m.V) }

// Directive reports whether d may stand at p.
func (p Place) Directive(d api.Dir) bool {
	return letters.Name(d.Name) && All(d.Args, p.Argument)
}

// RightParam reports whether there can be such a parameter.
func RightParam(x api.Param) bool {
	return letters.Name(x.Name) && wrap.Right(x.T) && Outside().Value(x.Default) &&
		(x.Has || value.Same(x.Default, api.Value{}))
}

// NameOrNone reports whether s is a name, or empty.
func NameOrNone(s string) bool { return s == "" || letters.Name(s) }

// All reports whether is holds for every element of l.
func All[T any](l []T, is func(x T) bool) bool {
	for _, x := range l {
		if !is(x) {
			return false
		}
	}
	return true
}
