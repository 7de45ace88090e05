package block

import (
	"slices"
	"strings"
	"testing"

	"seine/every"
)

// linesOf says what Lines must answer, by the library's Split.
func linesOf(s string) []string {
	return strings.Split(strings.NewReplacer("\r\n", "\n", "\r", "\n").Replace(s), "\n")
}

// indentOf says what Indent must answer, by what the library's TrimLeft takes away.
func indentOf(l []string) int {
	var found []int
	for k, line := range l {
		if rest := strings.TrimLeft(line, "\t "); k > 0 && rest != "" {
			found = append(found, len(line)-len(rest))
		}
	}
	if len(found) == 0 {
		return -1
	}
	return slices.Min(found)
}

// valueOf says what Value must answer: it takes the indentation away byte by byte.
func valueOf(raw string) string {
	l := linesOf(raw)
	for range max(0, indentOf(l)) {
		for k := 1; k < len(l); k++ {
			if l[k] != "" {
				l[k] = l[k][1:]
			}
		}
	}
	full := func(line string) bool { return strings.Trim(line, "\t ") != "" }
	first := slices.IndexFunc(l, full)
	if first < 0 {
		return ""
	}
	out := l[first]
	for rest := l[first+1:]; slices.ContainsFunc(rest, full); rest = rest[1:] {
		out += "\n" + rest[0]
	}
	return out
}

// odd are bytes and code points that end no line and are no blank, though others may take them so.
func odd() []string {
	return []string{"\x00", "\x01", "\v", "\f", "\x1c", "\x1f", "!", `"`, `"""`, `\`, `\n`, `\"""`, "#", ",", "\x7f", "\x85", "\xa0", "\xff", "\xe2\x80", "\u0085", "\u00a0", "\u2028", "\u2029", "\u3000", "\ufeff", "😀"}
}

// P2.1: the ends of lines, each kind alone, at the edges and beside the others.
func TestLines(t *testing.T) {
	for s, want := range map[string][]string{
		"":                   {""},
		"a":                  {"a"},
		" \t":                {" \t"},
		"\n":                 {"", ""},
		"\r":                 {"", ""},
		"\r\n":               {"", ""},
		"\n\r":               {"", "", ""},
		"\r\r\n":             {"", "", ""},
		"\r\n\n":             {"", "", ""},
		"\r\n\r":             {"", "", ""},
		"\n\r\n":             {"", "", ""},
		"a\nb\rc\r\nd":       {"a", "b", "c", "d"},
		"a\n":                {"a", ""},
		"\na":                {"", "a"},
		" a \r\n\tb\t\r\n":   {" a ", "\tb\t", ""},
		"a\r \nb":            {"a", " ", "b"},
		"{a(b: 1)}\r\n# end": {"{a(b: 1)}", "# end"},
	} {
		if got := Lines(s); !slices.Equal(got, want) {
			t.Errorf("Lines(%q) = %q, want %q", s, got, want)
		}
	}
}

// P2.1: every short text; there is one more line than there are ends.
func TestLinesOfEveryText(t *testing.T) {
	for s := range every.Text(8, "\n", "\r", "a", " ") {
		got := Lines(s)
		if want := linesOf(s); !slices.Equal(got, want) {
			t.Fatalf("Lines(%q) = %q, want %q", s, got, want)
		}
		ends := strings.Count(s, "\n") + strings.Count(s, "\r") - strings.Count(s, "\r\n")
		if len(got) != ends+1 {
			t.Fatalf("Lines(%q): %d lines for %d ends", s, len(got), ends)
		}
	}
}

// P2.1: no other byte ends a line, and all others stay as they are.
func TestLinesOfEveryByte(t *testing.T) {
	for b := range 256 {
		c := string([]byte{byte(b)})
		want := []string{"x" + c + "y", c + "z" + c}
		if c == "\n" || c == "\r" {
			want = []string{"x", "y", "", "z", ""}
		}
		if got := Lines("x" + c + "y\n" + c + "z" + c); !slices.Equal(got, want) {
			t.Errorf("Lines with byte %d = %q, want %q", b, got, want)
		}
	}
	for _, s := range odd() {
		if got := Lines(s + "\r\n" + s); !slices.Equal(got, []string{s, s}) {
			t.Errorf("Lines with %q = %q", s, got)
		}
	}
}

// P2.1 and R4: each answer is a list of its own, up to its capacity.
func TestLinesAreNewMemory(t *testing.T) {
	const s = "a\nb\nc\nd\ne"
	a, b := Lines(s), Lines(s)
	a = append(a, "more")
	for k := range a[:cap(a)] {
		a[:cap(a)][k] = "other"
	}
	if want := []string{"a", "b", "c", "d", "e"}; !slices.Equal(b, want) {
		t.Errorf("the other answer became %q", b)
	}
}

// P2.2: the least indentation; the first line and those of nothing but blanks do not count.
func TestIndent(t *testing.T) {
	for _, c := range []struct {
		l    []string
		want int
	}{
		{nil, -1},
		{[]string{}, -1},
		{[]string{""}, -1},
		{[]string{"a"}, -1},
		{[]string{"  a"}, -1},
		{[]string{"a", ""}, -1},
		{[]string{"a", " ", "\t", " \t \t"}, -1},
		{[]string{"", "a"}, 0},
		{[]string{"", " a"}, 1},
		{[]string{"", "\ta"}, 1},
		{[]string{"", " \t a "}, 3},
		{[]string{"a", "    b"}, 4},
		{[]string{" a", "    b", "  c"}, 2},
		{[]string{" a", "  b", "    c"}, 2},
		{[]string{"a", "   b", "", " ", "     "}, 3},
		{[]string{"a", "", " ", "   b", "  "}, 3},
		{[]string{"a", "  b", "c", " d"}, 0},
		{[]string{"a", "  b", "\t\tc"}, 2},
		{[]string{"a", "  b    c"}, 2},
	} {
		if got := Indent(c.l...); got != c.want {
			t.Errorf("Indent(%q) = %d, want %d", c.l, got, c.want)
		}
	}
}

// P2.2: every list of up to four short lines.
func TestIndentOfEveryList(t *testing.T) {
	lines := slices.Collect(every.Text(2, " ", "\t", "a"))
	var grow func(l []string)
	grow = func(l []string) {
		if got, want := Indent(l...), indentOf(l); got != want {
			t.Fatalf("Indent(%q) = %d, want %d", l, got, want)
		}
		if len(l) == 4 {
			return
		}
		for _, s := range lines {
			grow(append(slices.Clip(l), s))
		}
	}
	grow(nil)
}

// P2.2: the bytes 9 and 32 alone are blanks; a byte that would end a line is none.
func TestIndentOfEveryByte(t *testing.T) {
	for b := range 256 {
		c := string([]byte{byte(b)})
		want, alone := 2, 2
		if c == "\t" || c == " " {
			want, alone = 4, -1
		}
		if got := Indent("", " \t"+c+" x"); got != want {
			t.Errorf("Indent of a line with byte %d = %d, want %d", b, got, want)
		}
		if got := Indent("x", "\t "+c); got != alone {
			t.Errorf("Indent of a line that ends with byte %d = %d, want %d", b, got, alone)
		}
	}
	for _, s := range odd() {
		if got := Indent(s, "   "+s, "    a"); got != 3 {
			t.Errorf("Indent before %q = %d", s, got)
		}
	}
}

// P2.2 and R4: the lines stay as they are, also behind the end of their list.
func TestIndentKeepsItsLines(t *testing.T) {
	l := []string{"  a", "  b", " \t", "   c", "  beyond"}
	kept := slices.Clone(l)
	if got := Indent(l[:4]...); got != 2 || !slices.Equal(l, kept) {
		t.Errorf("Indent = %d; its lines are %q", got, l)
	}
}

// P2.3: the indentation and the bare lines at both ends go; what is between stays.
func TestValue(t *testing.T) {
	for raw, want := range map[string]string{
		"":                             "",
		"a":                            "a",
		"  a  ":                        "  a  ",
		"\n":                           "",
		"\r\n \t\r  \n\t":              "",
		" \t ":                         "",
		"\n  a\n    b\n":               "a\n  b",
		"  a\n  b":                     "  a\nb",
		"a\n b":                        "a\nb",
		"a\nb\n  c":                    "a\nb\n  c",
		"a\n\tb\n c":                   "a\nb\nc",
		"a\n    b\n \n      c":         "a\nb\n\n  c",
		"a\n  b\n      \n  c":          "a\nb\n    \nc",
		"a\n   \n  ":                   "a",
		"   \n   \n  a":                "a",
		"\n\n  a \n\n  b\t\n\n  ":      "a \n\nb\t",
		"x\r\n  y\r  z\n\r  w":         "x\ny\nz\n\nw",
		"\n    Hello,\n      World!\n": "Hello,\n  World!",
		"\n  a\n b\nc":                 "  a\n b\nc",
		"\r\n  one \"\"\" \\n":         "one \"\"\" \\n",
	} {
		if got := Value(raw); got != want {
			t.Errorf("Value(%q) = %q, want %q", raw, got, want)
		}
	}
}

// P2.3: every short text.
func TestValueOfEveryText(t *testing.T) {
	for raw := range every.Text(8, "\n", " ", "\t", "a") {
		if got, want := Value(raw), valueOf(raw); got != want {
			t.Fatalf("Value(%q) = %q, want %q", raw, got, want)
		}
	}
	for raw := range every.Text(5, "\n", "\r", "\r\n", " ", "  a", "\tb ", "c") {
		if got, want := Value(raw), valueOf(raw); got != want {
			t.Fatalf("Value(%q) = %q, want %q", raw, got, want)
		}
	}
}

// P2.3: bytes that are no text, and those that others take for blanks or ends, stay.
func TestValueOfOddBytes(t *testing.T) {
	for _, s := range odd() {
		raw := s + "\n  " + s + "\r\n\t\t\t" + s + s + "\n   "
		want := s + "\n" + s + "\n\t" + s + s
		if got := Value(raw); got != want {
			t.Errorf("Value(%q) = %q, want %q", raw, got, want)
		}
		if got := Value("\n" + s + "\n"); got != s {
			t.Errorf("Value of a line %q = %q", s, got)
		}
	}
}

// P2.3: many lines, and a deep indentation.
func TestValueOfLongTexts(t *testing.T) {
	const n = 100000
	if got := Value(strings.Repeat(" \r\n", n) + "a" + strings.Repeat("\n\t", n)); got != "a" {
		t.Errorf("a line among bare ones: %d bytes", len(got))
	}
	deep := strings.Repeat(" ", n)
	if got := Value("\n" + deep + "a\n \n" + deep + " b\n" + deep); got != "a\n\n b" {
		t.Errorf("a deep indentation: %d bytes", len(got))
	}
	if got, want := Value(strings.Repeat("\r\n a", n)), strings.Repeat("a\n", n-1)+"a"; got != want {
		t.Errorf("many lines: %d bytes, want %d", len(got), len(want))
	}
}

// P2.4: no byte 13, and a line that is not bare at both ends.
func TestValueHasNoBareEnds(t *testing.T) {
	for raw := range every.Text(6, "\n", "\r", " ", "\t", "a", "\x00") {
		got := Value(raw)
		if strings.Contains(got, "\r") {
			t.Fatalf("Value(%q) = %q has a byte 13", raw, got)
		}
		l := strings.Split(got, "\n")
		for _, line := range []string{l[0], l[len(l)-1]} {
			if got != "" && strings.Trim(line, "\t ") == "" {
				t.Fatalf("Value(%q) = %q has a bare line at an end", raw, got)
			}
		}
	}
}
