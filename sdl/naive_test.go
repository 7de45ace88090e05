package sdl_test

import (
	"fmt"
	"strings"
	"unicode/utf16"

	"seine/api"
	"seine/sdl"
)

// The functions that end in `Text` write whatever they are given as if it were
// Right, and all of it; what no text has is written as `?`.

func around(open string, l []string, between, end string) string {
	if len(l) == 0 {
		return ""
	}
	return open + strings.Join(l, between) + end
}

func each[T any](l []T, text func(x T) string) []string {
	var out []string
	for _, x := range l {
		out = append(out, text(x))
	}
	return out
}

// quoteText writes s by units alone.
func quoteText(s string) string {
	out := ""
	for _, u := range utf16.Encode([]rune(s)) {
		out += fmt.Sprintf(`\u%04X`, u)
	}
	return `"` + out + `"`
}

func valueText(v api.Value) string {
	switch v.Kind {
	case api.Null:
		return "null"
	case api.Bool:
		return fmt.Sprint(v.N != 0)
	case api.Int:
		return fmt.Sprint(v.N)
	case api.Num, api.Enum:
		return v.S
	case api.Text:
		return quoteText(v.S)
	case api.Var:
		return "$" + v.S
	case api.List:
		return "[" + strings.Join(each(v.L, valueText), " ") + "]"
	case api.Map:
		return "{" + strings.Join(each(v.M, argText), " ") + "}"
	}
	return "?"
}

func argText(m api.Member) string { return m.Name + ":" + valueText(m.V) }

func dirText(d api.Dir) string { return "@" + d.Name + around("(", each(d.Args, argText), " ", ")") }

func typeText(x api.Type) string {
	lists := min(max(0, x.Lists), 9)
	out := strings.Repeat("[", lists) + x.Name
	for i := lists; i >= 0; i-- {
		if x.Musts>>i&1 == 1 {
			out += "!"
		}
		if i > 0 {
			out += "]"
		}
	}
	return out
}

func paramText(p api.Param) string {
	out := p.Name + ":" + typeText(p.T)
	if p.Has {
		out += "=" + valueText(p.Default)
	}
	return out
}

func fieldText(f api.FieldDef) string {
	return f.Name + around("(", each(f.Params, paramText), " ", ")") + ":" + typeText(f.T) + strings.Join(each(f.Dirs, dirText), "")
}

// defText writes a union behind a `=`, all else within brackets.
func defText(d api.Def) string {
	words := map[int]string{api.Object: "type", api.Face: "interface", api.Union: "union", api.Enums: "enum", api.Input: "input"}
	out := words[d.Kind] + " " + d.Name + around(" implements ", d.Faces, "&", "")
	if words[d.Kind] == "" {
		out = "?"
	}
	within := append(each(d.Fields, fieldText), each(d.Params, paramText)...)
	if d.Kind == api.Union {
		return out + "=" + strings.Join(d.Parts, "|") + around("{", within, " ", "}")
	}
	return out + "{" + strings.Join(append(within, d.Parts...), " ") + "}"
}

func schemaText(s api.Schema) string {
	out := "schema{query:" + s.Query
	if s.Mutation != "" {
		out += " mutation:" + s.Mutation
	}
	return out + "}" + strings.Join(each(s.Defs, defText), " ")
}

// readable reports whether s is Right, as its text is read: no text is read as
// what is not, and what is Right is read of the text that schemaText writes.
func readable(s api.Schema) bool {
	got, e := sdl.Read(schemaText(s))
	return e == api.OK && show(got) == show(s)
}
