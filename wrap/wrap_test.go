package wrap

import (
	"math"
	"regexp"
	"strings"
	"testing"

	"seine/api"
	"seine/every"
)

func typ(name string, lists, musts int) api.Type {
	return api.Type{Name: name, Lists: lists, Musts: musts}
}

// A spelt type is one with its text, built from the name outwards.
type spelt struct {
	t    api.Type
	text string
}

// spelts makes every Right type of the names, with its text.
func spelts(names ...string) []spelt {
	var all, last []spelt
	for _, n := range names {
		last = append(last, spelt{typ(n, 0, 0), n}, spelt{typ(n, 0, 1), n + "!"})
	}
	for lists := 0; ; lists++ {
		all = append(all, last...)
		if lists == 4 {
			return all
		}
		var next []spelt
		for _, x := range last {
			free := typ(x.t.Name, lists+1, 2*x.t.Musts)
			must := typ(x.t.Name, lists+1, 2*x.t.Musts+1)
			next = append(next, spelt{free, "[" + x.text + "]"}, spelt{must, "[" + x.text + "]!"})
		}
		last = next
	}
}

// wrongs are types that are not Right: each part beyond its bounds, alone and with others.
func wrongs() []api.Type {
	out := []api.Type{{}}
	for _, n := range []string{"", " ", "1", "1a", "a b", "a!", "[a]", "a-b", "é", "a\x00", "a\n", "\xff"} {
		for lists := range 5 {
			out = append(out, typ(n, lists, 0), typ(n, lists, 1), typ(n, lists, 2<<lists-1))
		}
	}
	for _, lists := range []int{-1, -2, -64, 5, 6, 31, 32, 61, 62, 63, 64, 65, math.MaxInt32, math.MinInt32, math.MaxInt, math.MinInt} {
		for _, musts := range []int{0, 1, 2, 31, 32, 63, 64, -1, math.MaxInt, math.MinInt} {
			out = append(out, typ("Int", lists, musts))
		}
	}
	for lists := range 5 {
		for _, musts := range []int{-1, -2, math.MinInt, math.MinInt + 1, 2 << lists, 2<<lists + 1, 4 << lists, 1<<32 + 1, math.MaxInt} {
			out = append(out, typ("Int", lists, musts))
		}
	}
	return out
}

// P4.1: exactly the names, the Lists and the Musts within their bounds are Right.
func TestRight(t *testing.T) {
	most := map[int]int{0: 1, 1: 3, 2: 7, 3: 15, 4: 31}
	for lists := -3; lists <= 9; lists++ {
		for musts := -70; musts <= 70; musts++ {
			last, is := most[lists]
			want := is && musts >= 0 && musts <= last
			if x := typ("Int", lists, musts); Right(x) != want {
				t.Errorf("Right(%v) = %v", x, !want)
			}
		}
	}
	for _, x := range wrongs() {
		if Right(x) {
			t.Errorf("Right(%v)", x)
		}
	}
}

// P4.1: Name is a Name, whatever the lists are.
func TestRightNames(t *testing.T) {
	name := regexp.MustCompile(`^[A-Z_a-z][0-9A-Z_a-z]*$`)
	var all []string
	for b := range 256 {
		all = append(all, string([]byte{byte(b)}), "a"+string([]byte{byte(b)}), string(rune(b)))
	}
	for s := range every.Text(4, "a", "Z", "_", "9", " ", "!", "é") {
		all = append(all, s)
	}
	for _, s := range all {
		for lists := range 5 {
			if x := typ(s, lists, 1); Right(x) != name.MatchString(s) {
				t.Errorf("Right(%v) = %v", x, Right(x))
			}
		}
	}
	if long := typ(strings.Repeat("a", 1<<20), 4, 31); !Right(long) {
		t.Error("a long name is not Right")
	}
}

// P4.1: every type that is built from the name outwards is Right, and there are no more.
func TestRightAll(t *testing.T) {
	got := spelts("Int")
	if len(got) != 2+4+8+16+32 {
		t.Fatalf("%d types", len(got))
	}
	for _, x := range got {
		if !Right(x.t) {
			t.Errorf("%s is not Right", x.text)
		}
	}
}

// P4.2: Print and Read over all types of some names; `!` stands at every place and at none.
func TestPrintRead(t *testing.T) {
	for _, x := range spelts("Int", "_", "a1", strings.Repeat("Z", 9000)) {
		if got, ok := Print(x.t); got != x.text || !ok {
			t.Errorf("Print(%v) = %q, %v", x.t, got, ok)
		}
		if got, ok := Read(x.text); got != x.t || !ok {
			t.Errorf("Read(%q) = %v, %v", x.text, got, ok)
		}
	}
}

// P4.2: the texts and the types that the chapter and plain reading give.
func TestPrintReadNamed(t *testing.T) {
	for text, want := range map[string]api.Type{
		"Int":              typ("Int", 0, 0),
		"Int!":             typ("Int", 0, 1),
		"[Int!]":           typ("Int", 1, 2),
		"[Int]!":           typ("Int", 1, 1),
		"[Int!]!":          typ("Int", 1, 3),
		"[[Int]!]!":        typ("Int", 2, 3),
		"[[Int!]]":         typ("Int", 2, 4),
		"[[[Int]!]]":       typ("Int", 3, 4),
		"[[[[Int]]]]!":     typ("Int", 4, 1),
		"[[[[Int!]]]]":     typ("Int", 4, 16),
		"[[[[Int!]!]!]!]!": typ("Int", 4, 31),
	} {
		if got, ok := Print(want); got != text || !ok {
			t.Errorf("Print(%v) = %q, %v", want, got, ok)
		}
		if got, ok := Read(text); got != want || !ok {
			t.Errorf("Read(%q) = %v, %v", text, got, ok)
		}
	}
}

// patterns are those of the texts of types with 0 to 4 lists; a pattern's groups tell where `!` stands, from the name outwards.
func patterns() []*regexp.Regexp {
	var out []*regexp.Regexp
	p := `([A-Z_a-z][0-9A-Z_a-z]*)(!?)`
	for range 5 {
		out = append(out, regexp.MustCompile(`^`+p+`$`))
		p = `\[` + p + `\](!?)`
	}
	return out
}

// readOf says what Read must answer, by the library's patterns.
func readOf(ps []*regexp.Regexp, s string) (api.Type, bool) {
	for lists, p := range ps {
		m := p.FindStringSubmatch(s)
		if m == nil {
			continue
		}
		x := typ(m[1], lists, 0)
		for k, mark := range m[2:] {
			x.Musts |= len(mark) << (lists - k)
		}
		return x, true
	}
	return api.Type{}, false
}

// P4.2: Read answers what the patterns say for every short text; what it reads prints as the text.
func TestReadShort(t *testing.T) {
	ps := patterns()
	check := func(s string) {
		want, is := readOf(ps, s)
		got, ok := Read(s)
		if got != want || ok != is {
			t.Errorf("Read(%q) = %v, %v, want %v, %v", s, got, ok, want, is)
		}
		if back, right := Print(got); right != ok || right && back != s {
			t.Errorf("Print(Read(%q)) = %q, %v", s, back, right)
		}
	}
	for s := range every.Text(9, "[", "]", "!", "a") {
		check(s)
	}
	for s := range every.Text(6, "[", "]", "!", "Int", "_1", " ", ",", "1") {
		check(s)
	}
	for opens := range 8 {
		for s := range every.Text(8, "]", "!") {
			check(strings.Repeat("[", opens) + "a" + s)
			check(strings.Repeat("[", opens) + s)
		}
	}
}

// P4.2: every byte put into a text of a type, and each byte of it left out.
func TestReadBytes(t *testing.T) {
	ps := patterns()
	for _, x := range spelts("Int") {
		for i := range len(x.text) + 1 {
			for b := range 256 {
				s := x.text[:i] + string([]byte{byte(b)}) + x.text[i:]
				want, is := readOf(ps, s)
				if got, ok := Read(s); got != want || ok != is {
					t.Errorf("Read(%q) = %v, %v", s, got, ok)
				}
			}
			s := x.text[:i] + x.text[min(i+1, len(x.text)):]
			want, is := readOf(ps, s)
			if got, ok := Read(s); got != want || ok != is {
				t.Errorf("Read(%q) = %v, %v", s, got, ok)
			}
		}
	}
}

// P4.2: texts that are no type.
func TestReadWrong(t *testing.T) {
	long := 1 << 20
	for _, s := range []string{
		"", "!", "!!", "[", "]", "[]", "[]!", "[!]", "[[]]", "Int!!", "[Int]!!", "[Int!!]", "!Int", "[!Int]", "![Int]",
		"[Int", "Int]", "[Int!", "Int!]", "[[Int]", "[Int]]", "]Int[", "[Int]Int", "Int[Int]", "[Int][Int]",
		" Int", "Int ", "Int !", "[ Int]", "[Int ]", "[Int] !", "[ [Int]]", "In t", "Int\n", "\tInt", "Int,", "#Int", "\ufeffInt",
		"1", "1a", "[1]", "a,b", "a-b", "é", "\xff", "Int\x00", "(Int)", "{Int}", "[Int!]! !",
		"[[[[[Int]]]]]", "[[[[[Int!]!]!]!]!]!", "[[[[[[Int]]]]]]",
		strings.Repeat("[", 64) + "a" + strings.Repeat("]", 64),
		strings.Repeat("[", long) + "a" + strings.Repeat("]", long),
		strings.Repeat("[", long) + "a" + strings.Repeat("]!", long),
		"a" + strings.Repeat("!", long), strings.Repeat("[", long), strings.Repeat("]", long),
	} {
		if got, ok := Read(s); got != (api.Type{}) || ok {
			t.Errorf("Read(%.40q) = %v, %v", s, got, ok)
		}
	}
}

// P4.3: Item, List, Must, Bare and Is, against what they do with the text.
func TestParts(t *testing.T) {
	want := map[string]api.Type{}
	all := spelts("Int", "_")
	for _, x := range all {
		want[x.text] = x.t
	}
	for _, x := range all {
		bare := strings.TrimSuffix(x.text, "!")
		item, isItem := want[strings.TrimSuffix(strings.TrimPrefix(bare, "["), "]")], bare[0] == '['
		if !isItem {
			item = api.Type{}
		}
		if got, ok := Item(x.t); got != item || ok != isItem {
			t.Errorf("Item(%s) = %v, %v", x.text, got, ok)
		}
		list, isList := want["["+x.text+"]"]
		if got, ok := List(x.t); got != list || ok != isList {
			t.Errorf("List(%s) = %v, %v", x.text, got, ok)
		}
		if isList == (x.t.Lists == 4) {
			t.Errorf("%s: the test's lists are wrong", x.text)
		}
		if got := Must(x.t); got != want[bare+"!"] {
			t.Errorf("Must(%s) = %v", x.text, got)
		}
		if got := Bare(x.t); got != want[bare] {
			t.Errorf("Bare(%s) = %v", x.text, got)
		}
		if got := Is(x.t); got != (bare != x.text) {
			t.Errorf("Is(%s) = %v", x.text, got)
		}
	}
}

// marksOff reports whether b is a with some of its `!` left out, or none.
func marksOff(a, b string) bool {
	for a != "" {
		switch {
		case b != "" && a[0] == b[0]:
			b = b[1:]
		case a[0] != '!':
			return false
		}
		a = a[1:]
	}
	return b == ""
}

// P4.3: Sub over all pairs: of equal and of other names, lists and bits.
func TestSub(t *testing.T) {
	all := spelts("Int", "ID", "I")
	count := 0
	for _, a := range all {
		for _, b := range all {
			got := Sub(a.t, b.t)
			if want := marksOff(a.text, b.text); got != want {
				t.Errorf("Sub(%s, %s) = %v", a.text, b.text, got)
			}
			if got {
				count++
			}
		}
	}
	if want := 3 * (3 + 9 + 27 + 81 + 243); count != want {
		t.Errorf("%d pairs, want %d", count, want)
	}
}

// P4.3: types that differ in their name, their lists or one bit.
func TestSubNamed(t *testing.T) {
	for _, x := range []struct {
		a, b api.Type
		want bool
	}{
		{typ("Int", 0, 1), typ("Int", 0, 0), true},
		{typ("Int", 0, 0), typ("Int", 0, 1), false},
		{typ("Int", 0, 1), typ("int", 0, 1), false},
		{typ("Int", 0, 1), typ("In", 0, 0), false},
		{typ("Int", 1, 1), typ("Int", 0, 1), false},
		{typ("Int", 0, 1), typ("Int", 1, 1), false},
		{typ("Int", 2, 7), typ("Int", 2, 5), true},
		{typ("Int", 2, 5), typ("Int", 2, 7), false},
		{typ("Int", 2, 5), typ("Int", 2, 2), false},
		{typ("Int", 4, 31), typ("Int", 4, 0), true},
	} {
		if got := Sub(x.a, x.b); got != x.want {
			t.Errorf("Sub(%v, %v) = %v", x.a, x.b, got)
		}
	}
}

// P4.2, P4.3: a type that is not Right has no text, no item, no list and no sub type; Must and Bare leave it as it is.
func TestWrong(t *testing.T) {
	none := api.Type{}
	for _, x := range wrongs() {
		if got, ok := Print(x); got != "" || ok {
			t.Errorf("Print(%v) = %q, %v", x, got, ok)
		}
		if got, ok := Item(x); got != none || ok {
			t.Errorf("Item(%v) = %v, %v", x, got, ok)
		}
		if got, ok := List(x); got != none || ok {
			t.Errorf("List(%v) = %v, %v", x, got, ok)
		}
		if got := Must(x); got != x {
			t.Errorf("Must(%v) = %v", x, got)
		}
		if got := Bare(x); got != x {
			t.Errorf("Bare(%v) = %v", x, got)
		}
		if Is(x) {
			t.Errorf("Is(%v)", x)
		}
		for _, y := range []api.Type{x, typ(x.Name, x.Lists, 0), typ("Int", 0, 0), typ("Int", 1, 3), typ("Int", 4, 31)} {
			if (Sub(x, y) || Sub(y, x)) && !(Right(x) && Right(y)) {
				t.Errorf("Sub of %v and %v", x, y)
			}
		}
	}
}

// P4.4: Read of what Print returns is the type; Item of what List returns is the type, and so from any type down to its name.
func TestBack(t *testing.T) {
	for _, x := range spelts("Int", "a_0") {
		text, _ := Print(x.t)
		if got, ok := Read(text); got != x.t || !ok {
			t.Errorf("Read(Print(%v)) = %v, %v", x.t, got, ok)
		}
		if list, ok := List(x.t); ok {
			if got, is := Item(list); got != x.t || !is {
				t.Errorf("Item(List(%v)) = %v, %v", x.t, got, is)
			}
		}
		down, steps := x.t, 0
		for item, ok := Item(down); ok; item, ok = Item(down) {
			if list, is := List(item); list != Bare(down) || !is {
				t.Errorf("List(Item(%v)) = %v, %v", down, list, is)
			}
			down, steps = item, steps+1
		}
		if steps != x.t.Lists || down.Lists != 0 || down.Name != x.t.Name {
			t.Errorf("%v ends at %v by %d steps", x.t, down, steps)
		}
	}
}

// P4.4: Sub is a partial order on the types that are Right.
func TestOrder(t *testing.T) {
	all := spelts("Int", "ID")
	for _, a := range all {
		if !Sub(a.t, a.t) {
			t.Errorf("%s is no sub type of itself", a.text)
		}
		for _, b := range all {
			if a.t != b.t && Sub(a.t, b.t) && Sub(b.t, a.t) {
				t.Errorf("%s and %s are sub types of each other", a.text, b.text)
			}
			for _, c := range all {
				if Sub(a.t, b.t) && Sub(b.t, c.t) && !Sub(a.t, c.t) {
					t.Errorf("%s, %s, %s", a.text, b.text, c.text)
				}
			}
		}
	}
}
