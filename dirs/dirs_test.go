package dirs_test

import (
	"strings"
	"testing"

	"seine/api"
	"seine/dirs"
	"seine/every"
	"seine/parse"
	"seine/schema"
	"seine/sdl"
)

// world is a schema with directives of its own, which matter to no document.
const world = `
	type Query{a:Int b:Query c:[Query!]! d(x:Int if:Boolean):Int n:N u:U skip:Int @link(table:"skip" column:"other")}
	type Mutation{a:Int b:Query n:N @do(command:"skip")}
	interface N{id:ID n:N}
	type A implements N{id:ID n:N a:Int @column(name:"a")}
	union U=A|Query`

func names(s string) []string { return strings.Fields(s) }

// read reads a document.
func read(t *testing.T, text string) api.Doc {
	t.Helper()
	d, e := parse.Read(text)
	if e != api.OK {
		t.Fatalf("%s is not read: %d", text, e)
	}
	return d
}

// sound reads a schema.
func sound(t *testing.T, text string) api.Schema {
	t.Helper()
	s, e := sdl.Read(text)
	if e != api.OK || schema.Check(s) != 0 {
		t.Fatalf("%s is not read, or not sound: %d", text, e)
	}
	return s
}

// param holds what Param tells of a name against what is wanted.
func param(t *testing.T, name string, want bool) {
	t.Helper()
	p, is := dirs.Param(name)
	if is != want {
		t.Errorf("Param(%.40q): %v", name, is)
	}
	if !want && (p.Name != "" || p.T != api.Type{} || p.Has || !plain(p.Default)) {
		t.Errorf("Param(%.40q) = %+v, and there is none", name, p)
	}
	if want && (p.Name != "if" || p.T != api.Type{Name: "Boolean", Lists: 0, Musts: 1} || p.Has || !plain(p.Default)) {
		t.Errorf("Param(%q) = %+v", name, p)
	}
}

// plain reports whether nothing is said in v.
func plain(v api.Value) bool {
	return v.Kind == 0 && v.N == 0 && v.S == "" && len(v.L) == 0 && len(v.M) == 0
}

// P15.1: the directives that there are, and others.
func TestParam(t *testing.T) {
	for range 2 {
		param(t, "skip", true)
		param(t, "include", true)
		for _, name := range append(names("if Boolean Boolean! deprecated column link get do skips xskip kip ski s i includes nclude includ inclde skipinclude include_ _skip skip1 @skip @include x ſkip skıp ínclude"), "", " ", " skip", "skip ", "skip\x00", "\x00", "\xff", "skip include", "skip,include", "include\n", "skip\xff") {
			param(t, name, false)
		}
	}
}

// P15.1: names that differ from those of the directives in the case of letters.
func TestParamOfCases(t *testing.T) {
	for _, name := range names("skip include") {
		for mask := range 1 << len(name) {
			cases := []byte(name)
			for k := range cases {
				cases[k] -= byte(mask>>k&1) * 32
			}
			param(t, string(cases), mask == 0)
		}
	}
}

// P15.1: names that differ from those of the directives by one byte more, by one less or in one, or by two that have changed places.
func TestParamOfNeighbours(t *testing.T) {
	for _, name := range names("skip include") {
		for at := range len(name) + 1 {
			for b := range 256 {
				param(t, name[:at]+string([]byte{byte(b)})+name[at:], false)
				if at < len(name) {
					param(t, name[:at]+string([]byte{byte(b)})+name[at+1:], byte(b) == name[at])
				}
			}
			if at < len(name) {
				param(t, name[:at]+name[at+1:], false)
				param(t, name[at:]+name[:at], at == 0)
			}
			if at+1 < len(name) {
				param(t, name[:at]+name[at+1:at+2]+name[at:at+1]+name[at+2:], false)
			}
		}
	}
}

// P15.1: all short texts of pieces of the names.
func TestParamOfTexts(t *testing.T) {
	found := 0
	for text := range every.Text(4, "s", "k", "i", "p", "in", "clude", "include", "skip", "S", "_", "") {
		want := text == "skip" || text == "include"
		if want {
			found++
		}
		param(t, text, want)
	}
	if found == 0 {
		t.Error("none of the texts is one of the names")
	}
}

// R1: names of any length.
func TestParamOfLongNames(t *testing.T) {
	long := strings.Repeat("skip", 1<<22)
	param(t, long, false)
	param(t, "include"+long, false)
	param(t, strings.Repeat("\x00", 1<<20), false)
	param(t, long[:4], true)
}
