package bind

import (
	"slices"

	"seine/api"
)

// source returns what the directives of the field with this name tell, and whether
// they tell one thing.
func source(dirs []api.Dir, name string) (api.Bind, bool) {
	switch len(dirs) {
	case 0:
		return api.Bind{How: api.ByCol, Col: name}, true
	case 1:
		return told(dirs[0])
	}
	return api.Bind{}, false
}

// told returns what d tells, and whether it is a directive that tells something.
func told(d api.Dir) (api.Bind, bool) {
	switch d.Name {
	case "col":
		x, ok := texts(d.Args, "name")
		return api.Bind{How: api.ByCol, Col: x[0]}, ok
	case "link":
		x, ok := texts(d.Args, "table", "col")
		return api.Bind{How: api.ByLink, Table: x[0], Col: x[1]}, ok
	case "get":
		x, ok := texts(d.Args, "table", "arg")
		return api.Bind{How: api.ByGet, Table: x[0], Arg: x[1]}, ok
	case "do":
		return command(d.Args)
	}
	return api.Bind{}, false
}

// command returns what a directive `do` tells, and whether it is one: of the
// commands, `add` alone is about a column.
func command(args []api.Member) (api.Bind, bool) {
	if x, ok := texts(args, "cmd", "table", "col"); ok {
		return api.Bind{How: api.ByDo, Cmd: x[0], Table: x[1], Col: x[2]}, x[0] == "add"
	}
	x, ok := texts(args, "cmd", "table")
	return api.Bind{How: api.ByDo, Cmd: x[0], Table: x[1]}, ok && slices.Contains([]string{"put", "cut", "burn"}, x[0])
}

// texts returns what the arguments with these names say, one text for each name,
// and whether each of them is there once, with a text that is not empty, and no
// other one. Since no text is empty, an empty one is one that is still to come.
func texts(args []api.Member, names ...string) ([]string, bool) {
	out := make([]string, len(names))
arguments:
	for _, a := range args {
		for k, name := range names {
			if a.Name == name && out[k] == "" && a.V.Kind == api.Text && a.V.S != "" {
				out[k] = a.V.S
				continue arguments
			}
		}
		return out, false
	}
	return out, !slices.Contains(out, "")
}
