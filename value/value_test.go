package value

import (
	"fmt"
	"math"
	"math/big"
	"reflect"
	"regexp"
	"slices"
	"strings"
	"testing"
	"unicode/utf8"

	"seine/api"
	"seine/every"
)

func single(kind int, s string) api.Value { return api.Value{Kind: kind, S: s} }

func truthOf(n int64) api.Value { return api.Value{Kind: api.Bool, N: n} }

func list(l ...api.Value) api.Value { return api.Value{Kind: api.List, L: l} }

func mapped(l ...api.Member) api.Value { return api.Value{Kind: api.Map, M: l} }

func member(name string, v api.Value) api.Member { return api.Member{Name: name, V: v} }

// A frame puts a value into another one.
type frame func(v api.Value) api.Value

// frames put a value at different places of Lists and of Maps.
func frames() []frame {
	return []frame{
		func(v api.Value) api.Value { return list(v) },
		func(v api.Value) api.Value { return list(Int(1), list(), v) },
		func(v api.Value) api.Value { return list(v, single(api.Var, "z"), mapped()) },
		func(v api.Value) api.Value { return mapped(member("a", v)) },
		func(v api.Value) api.Value { return mapped(member("b", Text("b")), member("a", v)) },
		func(v api.Value) api.Value { return mapped(member("true", v), member("b", list(Int(1)))) },
	}
}

// framed puts v into the frames, the last one outermost.
func framed(v api.Value, l ...frame) api.Value {
	for _, f := range l {
		v = f(v)
	}
	return v
}

// deep puts v into so many frames, which take turns.
func deep(v api.Value, n int, l ...frame) api.Value {
	for k := range n {
		v = l[k%len(l)](v)
	}
	return v
}

// plains are single values that may occur in a document, all of them different.
func plains() []api.Value {
	out := []api.Value{{}, truthOf(0), truthOf(1)}
	for _, n := range []int64{0, 1, -1, 2, math.MaxInt32 + 1, math.MaxInt64, math.MinInt64} {
		out = append(out, Int(n))
	}
	for kind, texts := range map[int][]string{
		api.Num:  {"0.0", "-0.0", "1.0", "1.5", "1e5", "1E5", "-1.5e-05", "9223372036854775807.0", "9223372036854775808", "-9223372036854775809", "1" + strings.Repeat("0", 400)},
		api.Text: {"", "a", "null", "true", "1", "1.5", "[", "$", "$a", `"`, `\`, "\x00\n\r", "é", "\uffff", "😀\U0010ffff"},
		api.Enum: {"a", "_", "A9", "True", "NULL", "nulls", "tru", "falsee", "on"},
		api.Var:  {"a", "_", "A9", "null", "true", "false"},
	} {
		for _, s := range texts {
			out = append(out, single(kind, s))
		}
	}
	return out
}

// bads are values that are not Good by themselves: another Kind, a part that
// does not belong to the Kind, a part that is wrong.
func bads() []api.Value {
	var out []api.Value
	for _, kind := range []int{-1, -2, 9, 10, 256, 1 << 32, math.MaxInt, math.MinInt} {
		out = append(out, single(kind, ""), single(kind, "a"), api.Value{Kind: kind, N: 1}, api.Value{Kind: kind, L: []api.Value{{}}})
	}
	for _, v := range append(plains(), list(), list(Int(1)), mapped(), mapped(member("a", Int(1)))) {
		others := [4]api.Value{v, v, v, v}
		others[0].N, others[1].S, others[2].L, others[3].M = 1, "a", []api.Value{{}}, []api.Member{{}}
		for k, x := range others {
			if !slices.Contains(owns[v.Kind], k) {
				out = append(out, x)
			}
		}
	}
	for _, n := range []int64{2, 3, -1, 256, 1 << 32, math.MaxInt64, math.MinInt64} {
		out = append(out, truthOf(n))
	}
	for kind, texts := range map[int][]string{
		api.Num:  {"", "0", "-0", "1", "-905", "9223372036854775807", "-9223372036854775807", "-9223372036854775808", "01", "1.", ".5", "1a", "1 ", " 1.5", "+1.5", "1e", "Inf", "NaN", "0x1p5", "1_0.5", "09223372036854775808", "+9223372036854775808", "1.5\xff", "a"},
		api.Text: {"\xff", "a\x80", "\xe2\x82", "\xed\xa0\x80", "\xc0\x80", "\xf4\x90\x80\x80"},
		api.Enum: {"", "true", "false", "null", "1", "1a", "a b", " a", "a ", "a-b", "é", "a\x00", "\xff", "$a"},
		api.Var:  {"", "1", "1a", "a b", " a", "a ", "$a", "é", "a\x00", "\xff"},
	} {
		for _, s := range texts {
			out = append(out, single(kind, s))
		}
	}
	return out
}

// owns says which parts belong to a Kind: 0 is N, 1 is S, 2 is L, 3 is M.
var owns = map[int][]int{api.Null: {}, api.Bool: {0}, api.Int: {0}, api.Num: {1}, api.Text: {1}, api.Enum: {1}, api.List: {2}, api.Map: {3}, api.Var: {1}}

var (
	nameOf  = regexp.MustCompile(`^[A-Z_a-z][0-9A-Z_a-z]*$`)
	digitOf = regexp.MustCompile(`^-?(?:0|[1-9][0-9]*)$`)
	pointOf = regexp.MustCompile(`^-?(?:0|[1-9][0-9]*)(?:\.[0-9]+|(?:\.[0-9]+)?[Ee][+-]?[0-9]+)$`)
	takenOf = regexp.MustCompile(`^(?:true|false|null)$`)
)

// numOf says whether s may be what a Num says, by the library's integers.
func numOf(s string) bool {
	if !digitOf.MatchString(s) {
		return pointOf.MatchString(s)
	}
	n, ok := new(big.Int).SetString(s, 10)
	return ok && !n.IsInt64()
}

// goodOf says what Good must answer, by a list of what belongs to each Kind.
func goodOf(v api.Value) bool {
	own, is := owns[v.Kind]
	if !is {
		return false
	}
	for k, set := range []bool{v.N != 0, v.S != "", len(v.L) > 0, len(v.M) > 0} {
		if set && !slices.Contains(own, k) {
			return false
		}
	}
	for _, x := range v.L {
		if !goodOf(x) {
			return false
		}
	}
	for _, m := range v.M {
		if !utf8.ValidString(m.Name) || !goodOf(m.V) {
			return false
		}
	}
	switch v.Kind {
	case api.Bool:
		return v.N>>1 == 0
	case api.Num:
		return numOf(v.S)
	case api.Text:
		return utf8.ValidString(v.S)
	case api.Enum:
		return nameOf.MatchString(v.S) && !takenOf.MatchString(v.S)
	case api.Var:
		return nameOf.MatchString(v.S)
	}
	return true
}

// goodIs holds Good against what is wanted, and Plain where that says enough.
func goodIs(t *testing.T, v api.Value, want bool) {
	t.Helper()
	if got := Good(v); got != want {
		t.Errorf("Good(%.200s) = %v", fmt.Sprintf("%+v", v), got)
	}
	if !want && Plain(v) {
		t.Errorf("Plain(%.200s) = true", fmt.Sprintf("%+v", v))
	}
}

// P5.1: every Kind, and Kinds that there are not, with every set of parts.
func TestGoodOfEveryParts(t *testing.T) {
	texts := []string{"", "a", "A1", "true", "false", "null", "1", "-0", "1.5", "9223372036854775807", "9223372036854775808", "-9223372036854775808", "-9223372036854775809", " ", "é", "\x00", "\xff"}
	lists := [][]api.Value{nil, {}, {{}}, {truthOf(2)}}
	members := [][]api.Member{nil, {}, {{}}, {member("a", Int(1))}, {member("\xff", Int(1))}, {member("a", truthOf(2))}}
	for _, kind := range []int{math.MinInt, -9, -1, 0, 1, 2, 3, 4, 5, 6, 7, 8, 9, 10, 1 << 32, math.MaxInt} {
		for _, n := range []int64{0, 1, 2, -1, math.MaxInt64, math.MinInt64} {
			for _, s := range texts {
				for _, l := range lists {
					for _, m := range members {
						v := api.Value{Kind: kind, N: n, S: s, L: l, M: m}
						goodIs(t, v, goodOf(v))
					}
				}
			}
		}
	}
}

// P5.1: single values that are Good, and Plain as well; and single values that are not.
func TestGoodSingles(t *testing.T) {
	for _, v := range plains() {
		goodIs(t, v, true)
		if !Plain(v) {
			t.Errorf("Plain(%+v) = false", v)
		}
	}
	for _, v := range bads() {
		goodIs(t, v, false)
	}
}

// P5.1: what a Num may say: a Point, or Digits beyond 64 bits; both ends, and one beyond each.
func TestGoodNumbers(t *testing.T) {
	for s, want := range map[string]bool{
		"9223372036854775806": false, "9223372036854775807": false, "9223372036854775808": true, "9223372036854775809": true,
		"-9223372036854775807": false, "-9223372036854775808": false, "-9223372036854775809": true, "-9223372036854775810": true,
		"18446744073709551615": true, "18446744073709551616": true, "-18446744073709551616": true, "18446744073709551617": true,
		"1000000000000000000": false, "9999999999999999999": true, "10000000000000000000": true, "0": false, "-0": false, "-1": false,
		"0.0": true, "-0.0": true, "0e0": true, "1E400": true, "1.5": true, "1.5e-7": true, strings.Repeat("9", 100000): true, "0" + strings.Repeat("9", 30): false,
	} {
		goodIs(t, single(api.Num, s), want)
	}
	for s := range every.Text(5, "0", "1", "-", "+", ".", "e", "a", "9223372036854775807", "922337203685477580") {
		goodIs(t, single(api.Num, s), numOf(s))
	}
}

// P5.1: what an Enum, a Var, a Text and a Name of a Map may say.
func TestGoodTexts(t *testing.T) {
	all := []string{"true", "false", "null", "True", "FALSE", "nulL", "truee", "nul", "_null", "true_", "false0", strings.Repeat("Z", 100000)}
	for b := range 256 {
		all = append(all, string([]byte{byte(b)}), "a"+string([]byte{byte(b)}), string(rune(b)))
	}
	for s := range every.Text(3, "a", "_", "9", "true", "null", " ", "$", "é", "\xe2\x82", "\xac", "😀", "\n") {
		all = append(all, s)
	}
	for _, s := range all {
		name, good := nameOf.MatchString(s), utf8.ValidString(s)
		goodIs(t, single(api.Enum, s), name && !takenOf.MatchString(s))
		goodIs(t, single(api.Var, s), name)
		goodIs(t, single(api.Text, s), good)
		goodIs(t, mapped(member(s, Int(1))), good)
		goodIs(t, mapped(member("a", Int(1)), member(s, api.Value{})), good)
		if got := Plain(mapped(member("a", list()), member(s, Int(1)))); got != name {
			t.Errorf("Plain of a Map with the Name %q = %v", s, got)
		}
	}
}

// P5.1: a nil list and an empty one are the same, where they belong to the Kind and where they do not.
func TestGoodOfEmptyLists(t *testing.T) {
	for kind := range 9 {
		for _, l := range [][]api.Value{nil, {}, make([]api.Value, 0, 3)} {
			for _, m := range [][]api.Member{nil, {}, make([]api.Member, 0, 3)} {
				v := api.Value{Kind: kind, L: l, M: m}
				goodIs(t, v, kind != api.Num && kind != api.Enum && kind != api.Var)
			}
		}
	}
	null, members := []api.Value{{}}, []api.Member{{}}
	for _, x := range []struct {
		v    api.Value
		want bool
	}{
		{api.Value{Kind: api.List, L: null}, true},
		{api.Value{Kind: api.List, M: members}, false},
		{api.Value{Kind: api.List, L: null, M: members}, false},
		{api.Value{Kind: api.Map, M: members}, true},
		{api.Value{Kind: api.Map, L: null}, false},
		{api.Value{Kind: api.Map, L: null, M: members}, false},
		{mapped(member("a", Int(1)), member("a", Int(1))), true},
		{mapped(member("a", list(truthOf(-1)))), false},
		{list(Int(1), single(api.Null, "a"), Int(2)), false},
		{list(Int(1), mapped(member("\x80", Int(1)))), false},
	} {
		goodIs(t, x.v, x.want)
	}
}

// P5.1: one value that is not Good makes all around it not Good, wherever it stands.
func TestGoodWithin(t *testing.T) {
	all := append(bads(), mapped(member("\xff", Int(1))), mapped(member("a", Int(1)), member("a\x80", Int(1))))
	for _, v := range all {
		for l := range every.List(3, frames()...) {
			goodIs(t, framed(v, l...), false)
		}
	}
	for _, v := range plains() {
		for l := range every.List(3, frames()...) {
			x := framed(v, l...)
			goodIs(t, x, true)
			if !Plain(x) {
				t.Errorf("Plain(%+v) = false", x)
			}
		}
	}
	for _, n := range []int{16, 17, 4096} {
		goodIs(t, deep(Int(1), n, frames()...), true)
		goodIs(t, deep(truthOf(2), n, frames()...), false)
		goodIs(t, deep(mapped(member("\xff", Int(1))), n, frames()...), false)
	}
}

// P5.1: Plain asks for a Depth of at most MaxDeep, of Lists, of Maps and of both.
func TestPlainDepth(t *testing.T) {
	for k := range frames() {
		for j := range frames() {
			turns := []frame{frames()[k], frames()[j]}
			for n := 12; n <= 20; n++ {
				for d, leaf := range map[int]api.Value{1: mapped(), 2: list(list()), 3: list(Int(1), mapped(member("a", list())))} {
					v := deep(leaf, n, turns...)
					if got := Plain(v); got != (n+d <= 16) {
						t.Errorf("Plain of the Depth %d = %v", n+d, got)
					}
					goodIs(t, v, true)
				}
			}
		}
	}
	for n := range 20 {
		for _, f := range []frame{frames()[0], frames()[3], frames()[4]} {
			if got := Plain(deep(Int(1), n, f)); got != (n <= 16) {
				t.Errorf("Plain of the Depth %d = %v", n, got)
			}
		}
	}
	wide := list(deep(Int(1), 15, frames()...), list(), deep(Int(1), 14, frames()...))
	if !Plain(wide) {
		t.Error("Plain of a wide value of the Depth 16 = false")
	}
	wide.L[1] = deep(Int(1), 16, frames()...)
	if Plain(wide) {
		t.Error("Plain of a wide value of the Depth 17 = true")
	}
}

// P5.1: Plain asks for Names in all Maps, however deep they stand; Good does not.
func TestPlainNames(t *testing.T) {
	for _, s := range []string{"", "1", "1a", "a b", "a-b", " ", "$a", "é", "😀", "a\x00", "a\n"} {
		for l := range every.List(3, frames()...) {
			for _, v := range []api.Value{mapped(member(s, Int(1))), mapped(member("a", Int(1)), member(s, list()))} {
				x := framed(v, l...)
				goodIs(t, x, true)
				if Plain(x) {
					t.Errorf("Plain(%+v) = true", x)
				}
			}
		}
	}
	if !Plain(mapped(member("null", Int(1)), member("null", Int(2)), member("_", api.Value{}))) {
		t.Error("Plain of a Map with the Names null, null and _ = false")
	}
}

// P5.1: Depth counts Lists and Maps by their Kind alone.
func TestDepth(t *testing.T) {
	inner := []api.Value{list(list())}
	members := []api.Member{member("a", list(list()))}
	for kind := -3; kind < 13; kind++ {
		want := map[int]int{api.List: 3, api.Map: 3}[kind]
		if got := Depth(api.Value{Kind: kind, N: 5, S: "[[", L: inner, M: members}); got != want {
			t.Errorf("Depth of the Kind %d = %d", kind, got)
		}
		want = map[int]int{api.List: 1, api.Map: 1}[kind]
		if got := Depth(api.Value{Kind: kind}); got != want {
			t.Errorf("Depth of the empty Kind %d = %d", kind, got)
		}
	}
	for l := range every.List(4, frames()...) {
		for d, leaf := range map[int]api.Value{1: list(), 2: mapped(member("", single(99, "a")), member("a", list())), 3: list(mapped(member("", list(Int(1)))), Int(1))} {
			if got := Depth(framed(leaf, l...)); got != len(l)+d {
				t.Errorf("Depth(%+v) = %d, want %d", framed(leaf, l...), got, len(l)+d)
			}
		}
	}
}

// P5.1: Depth of values that are written out, and of very deep ones.
func TestDepthNamed(t *testing.T) {
	for _, x := range []struct {
		v    api.Value
		want int
	}{
		{api.Value{}, 0},
		{Text("[[]]"), 0},
		{list(), 1},
		{api.Value{Kind: api.List, L: []api.Value{}}, 1},
		{mapped(), 1},
		{list(Int(1), Int(2)), 1},
		{list(Int(1), list()), 2},
		{list(list(), Int(1)), 2},
		{list(list(list()), list()), 3},
		{list(list(), list(list()), list()), 3},
		{list(list(), list(list())), 3},
		{mapped(member("a", mapped()), member("b", Int(1))), 2},
		{mapped(member("a", Int(1)), member("\xff", list(mapped()))), 3},
		{api.Value{Kind: api.List, M: []api.Member{member("a", list())}}, 1},
		{api.Value{Kind: api.Map, L: []api.Value{list()}}, 1},
		{deep(Int(1), 16, frames()...), 16},
		{deep(Int(1), 17, frames()...), 17},
		{deep(list(), 4095, frames()...), 4096},
	} {
		if got := Depth(x.v); got != x.want {
			t.Errorf("Depth(%.200s) = %d, want %d", fmt.Sprintf("%+v", x.v), got, x.want)
		}
	}
}

// P5.2: Int and Text, of whatever they are given.
func TestIntText(t *testing.T) {
	for _, n := range []int64{0, 1, -1, math.MaxInt32, math.MaxInt64, math.MinInt64} {
		if got := Int(n); !reflect.DeepEqual(got, api.Value{Kind: 2, N: n}) || !Plain(got) {
			t.Errorf("Int(%d) = %+v", n, got)
		}
	}
	for _, s := range []string{"", "a", "null", "1", "😀", "\x00", "\xff"} {
		if got := Text(s); !reflect.DeepEqual(got, api.Value{Kind: 4, S: s}) || Good(got) != utf8.ValidString(s) {
			t.Errorf("Text(%q) = %+v", s, got)
		}
	}
}
