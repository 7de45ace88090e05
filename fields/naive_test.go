package fields_test

import (
	"slices"

	"seine/api"
)

// A teller tells plainly, by maps, what a schema says.
type teller struct {
	s       api.Schema
	kinds   map[string]int
	types   map[[2]string]string // by a type and a field of it
	objects map[string][]string  // for which a type stands
}

// tell takes the Defs from the last one, and the fields of each from the last one,
// so that the first ones count.
func tell(s api.Schema) teller {
	w := teller{s, map[string]int{}, map[[2]string]string{}, map[string][]string{}}
	first := map[string]api.Def{}
	for _, d := range slices.Backward(s.Defs) {
		first[d.Name] = d
	}
	for _, name := range names("Int String Boolean ID") {
		first[name] = api.Def{Kind: api.Scalar}
	}
	for name, d := range first {
		w.kinds[name] = d.Kind
		switch d.Kind {
		case api.Object, api.Face:
			for _, f := range slices.Backward(d.Fields) {
				w.types[[2]string{name, f.Name}] = f.T.Name
			}
		case api.Union:
			w.objects[name] = d.Parts
		}
		if d.Kind == api.Object {
			for _, face := range append(slices.Clip(d.Faces), name) {
				w.objects[face] = append(w.objects[face], name)
			}
		}
	}
	for name := range first {
		if w.isOf(name, api.Object, api.Face, api.Union) {
			w.types[[2]string{name, "__typename"}] = "String"
		}
	}
	return w
}

// isOf reports whether there is a type with this name, of one of the kinds.
func (w teller) isOf(name string, kinds ...int) bool {
	kind, found := w.kinds[name]
	return found && slices.Contains(kinds, kind)
}

func (w teller) meet(a, b string) bool {
	return slices.ContainsFunc(w.objects[a], func(name string) bool { return slices.Contains(w.objects[b], name) })
}

func (w teller) root(kind int) string {
	return map[bool]string{true: w.s.Mutation, false: w.s.Query}[kind == 1]
}

func (w teller) within(typ string, x api.Sel) string {
	switch {
	case x.Kind == 0:
		return w.types[[2]string{typ, x.Name}]
	case x.Kind == 2 && x.On != "":
		return x.On
	case x.Kind == 2:
		return typ
	}
	return ""
}

// A place is a selection with the type in which it stands.
type place struct {
	typ string
	x   api.Sel
}

// places are those of l, which stands in typ, and of the selections within it.
func (w teller) places(typ string, l []api.Sel) []place {
	var out []place
	for _, x := range l {
		out = append(append(out, place{typ, x}), w.places(w.within(typ, x), x.Sels)...)
	}
	return out
}

// broken are the rules from 9 to 11 that the selection at p does not keep, if
// fragments of these types can be spread.
func (w teller) broken(p place, on map[string]string) []int {
	x := p.x
	var out []int
	name, defined := w.types[[2]string{p.typ, x.Name}]
	if x.Kind == 0 && !defined {
		out = append(out, 9)
	}
	leaf, composite := w.isOf(name, 0, 4), w.isOf(name, 1, 2, 3)
	if x.Kind == 0 && defined && (leaf && len(x.Sels) != 0 || composite && len(x.Sels) == 0) {
		out = append(out, 10)
	}
	if x.Kind == 1 && !w.meet(p.typ, on[x.Name]) || x.Kind == 2 && x.On != "" && !w.meet(p.typ, x.On) {
		out = append(out, 11)
	}
	return out
}

// broken returns the rules from 9 to 11 that d does not keep, in ascending order.
func broken(s api.Schema, d api.Doc) []int {
	w := tell(s)
	var all []place
	on := map[string]string{}
	for _, op := range d.Ops {
		all = append(all, w.places(w.root(op.Kind), op.Sels)...)
	}
	for _, f := range d.Frags {
		on[f.Name] = f.On
		all = append(all, w.places(f.On, f.Sels)...)
	}
	var out []int
	for _, p := range all {
		out = append(out, w.broken(p, on)...)
	}
	slices.Sort(out)
	return slices.Compact(out)
}

// first is the first rule that d does not keep; 0 if there is none.
func first(s api.Schema, d api.Doc) int { return append(broken(s, d), 0)[0] }
