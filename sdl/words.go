package sdl

import "seine/api"

// The words of the definition of a schema.
const (
	schemaWord   = "schema"
	queryWord    = "query"
	mutationWord = "mutation"
)

// The names that operations have where no such definition tells them.
const (
	queryName    = "Query"
	mutationName = "Mutation"
)

// implementsWord stands ahead of the interfaces that a type has.
const implementsWord = "implements"

// kindWord returns the word with which definitions of a kind begin; an empty
// string if there are none.
func kindWord(kind int) string {
	switch kind {
	case api.Object:
		return "type"
	case api.Face:
		return "interface"
	case api.Union:
		return "union"
	case api.Enums:
		return "enum"
	case api.Input:
		return "input"
	}
	return ""
}
