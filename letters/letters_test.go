package letters

import (
	"slices"
	"strings"
	"testing"
	"unicode/utf16"
	"unicode/utf8"

	"seine/every"
)

// decode says what Code must answer, by the library's decoder.
func decode(s string, i int) (int, int) {
	if i < 0 || i >= len(s) {
		return 0, 0
	}
	c, n := utf8.DecodeRuneInString(s[i:])
	if c == utf8.RuneError && n == 1 {
		return 0, 0
	}
	return int(c), n
}

func sameCode(t *testing.T, s string, i int) {
	t.Helper()
	c, n := Code(s, i)
	if wantC, wantN := decode(s, i); c != wantC || n != wantN {
		t.Errorf("Code(%q, %d) = %d, %d, want %d, %d", s, i, c, n, wantC, wantN)
	}
}

// P1.1: each code point has one encoding.
func TestCodeOfEveryCodePoint(t *testing.T) {
	for c := range 0x110000 {
		if c >= 0xd800 && c <= 0xdfff {
			continue
		}
		s := string(rune(c))
		if got, n := Code(s, 0); got != c || n != len(s) {
			t.Fatalf("Code(%q, 0) = %d, %d, want %d, %d", s, got, n, c, len(s))
		}
	}
}

// P1.1: at the edges of each byte of an encoding, whole, cut short and followed.
func TestCodeOfEdgeBytes(t *testing.T) {
	edges := []byte{0, 'a', 0x7f, 0x80, 0x8f, 0x90, 0x9f, 0xa0, 0xbf, 0xc0, 0xc1, 0xc2, 0xdf, 0xe0, 0xe1, 0xec, 0xed, 0xee, 0xef, 0xf0, 0xf1, 0xf3, 0xf4, 0xf5, 0xf7, 0xf8, 0xfc, 0xfe, 0xff}
	for w := range every.List(4, edges...) {
		sameCode(t, string(w), 0)
	}
	for w := range every.List(2, edges...) {
		sameCode(t, "\xf4\x8f"+string(w)+"\xbf", 0)
	}
}

// P1.1: every pair of bytes, ahead of others.
func TestCodeOfEveryPair(t *testing.T) {
	for a := range 256 {
		for b := range 256 {
			for _, end := range []string{"", "\x80", "\x80\x80", "a", "\xbf\xbf\xbf"} {
				sameCode(t, string([]byte{byte(a), byte(b)})+end, 0)
			}
		}
	}
}

// P1.1: i is any number.
func TestCodeAtEveryPlace(t *testing.T) {
	s := "aä€😀\xffz"
	for i := -2; i <= len(s)+2; i++ {
		sameCode(t, s, i)
	}
	for _, i := range []int{-1 << 63, 1<<63 - 1, 1 << 32} {
		sameCode(t, s, i)
	}
}

// P1.1: Good holds for encoded code points, and for nothing else.
func TestGood(t *testing.T) {
	edges := []string{"a", "\x00", "ä", "€", "😀", "\U0010ffff", "\xff", "\x80", "\xe2\x82", "\xed\xa0\x80", "\xc0\x80", "\xf4\x90\x80\x80"}
	for s := range every.Text(3, edges...) {
		if got := Good(s); got != utf8.ValidString(s) {
			t.Errorf("Good(%q) = %v", s, got)
		}
	}
}

// P1.1: Source takes each code point by itself, wherever it stands.
func TestSourceOfEveryCodePoint(t *testing.T) {
	for c := range 0x110000 {
		if c >= 0xd800 && c <= 0xdfff {
			continue
		}
		want := c == '\t' || c == '\n' || c == '\r' || c >= 32 && c <= 0xffff
		if got := Source("{" + string(rune(c)) + "}"); got != want {
			t.Fatalf("Source with code point %d = %v, want %v", c, got, want)
		}
	}
}

// P1.1: Source asks for a Good text, of any length.
func TestSource(t *testing.T) {
	for s, want := range map[string]bool{"": true, "{ a }\r\n\t": true, "\ufeffä": true, "a\xff": false, "\xe2\x82": false, "\xed\xa0\x80": false, "\x00a": false, "a\x0c": false} {
		if got := Source(s); got != want {
			t.Errorf("Source(%q) = %v, want %v", s, got, want)
		}
	}
}

// P1.1: Name takes a byte at the beginning and behind it.
func TestNameOfEveryByte(t *testing.T) {
	const begin = "_abcdefghijklmnopqrstuvwxyzABCDEFGHIJKLMNOPQRSTUVWXYZ"
	for b := range 256 {
		s := string([]byte{byte(b)})
		first := strings.Contains(begin, s)
		later := first || strings.Contains("0123456789", s)
		for name, want := range map[string]bool{s: first, s + "a9": first, "a" + s: later, "_9" + s + "Z": later} {
			if got := Name(name); got != want {
				t.Errorf("Name(%q) = %v, want %v", name, got, want)
			}
		}
	}
	if Name("") {
		t.Error(`Name("") = true`)
	}
	if !Name(strings.Repeat("a1_Z", 10000)) {
		t.Error("a long name is none")
	}
}

var edgeUnits = []int{0, 'a', 0x7f, 0x80, 0x7ff, 0x800, 55295, 55296, 55297, 56319, 56320, 56321, 57343, 57344, 65533, 65535}

// joined says what Join must answer, by the library's decoder: it stands
// 65533 for a unit without its pair, and no code point is lost.
func joined(units []int) (string, bool) {
	var l []uint16
	for _, u := range units {
		l = append(l, uint16(u))
	}
	codes := utf16.Decode(l)
	return string(codes), slices.Equal(utf16.Encode(codes), l)
}

// P1.2: units alone, in pairs, and out of their order.
func TestJoin(t *testing.T) {
	for w := range every.List(4, edgeUnits...) {
		want, wantOk := joined(w)
		if !wantOk {
			want = ""
		}
		if got, ok := Join(w...); got != want || ok != wantOk {
			t.Errorf("Join(%v) = %q, %v, want %q, %v", w, got, ok, want, wantOk)
		}
	}
}

// P1.2: every unit by itself.
func TestJoinOfEveryUnit(t *testing.T) {
	for u := -2; u <= 65540; u++ {
		want, wantOk := "", u >= 0 && u <= 65535 && (u < 55296 || u > 57343)
		if wantOk {
			want = string(rune(u))
		}
		if got, ok := Join(u); got != want || ok != wantOk {
			t.Errorf("Join(%d) = %q, %v, want %q, %v", u, got, ok, want, wantOk)
		}
	}
}

// P1.2: a number beyond the units is refused, wherever it stands.
func TestJoinOfNoUnit(t *testing.T) {
	for _, u := range []int{-1, 65536, 1114111, 1<<32 + 'a', 1<<32 + 56832, -1 << 63, 1<<63 - 1} {
		for _, l := range [][]int{{u}, {'a', u}, {u, 'a'}, {55357, u}, {u, 56832}, {55357, 56832, u}} {
			if s, ok := Join(l...); s != "" || ok {
				t.Errorf("Join(%v) = %q, %v", l, s, ok)
			}
		}
	}
}

// P1.2: Units, and what is no text.
func TestUnits(t *testing.T) {
	if l, ok := Units("a€😀\U00010000\U0010ffff\uffff"); !ok || !slices.Equal(l, []int{97, 8364, 55357, 56832, 55296, 56320, 56319, 57343, 65535}) {
		t.Errorf("Units = %v, %v", l, ok)
	}
	if l, ok := Units(""); !ok || len(l) != 0 {
		t.Errorf(`Units("") = %v, %v`, l, ok)
	}
	for _, s := range []string{"\xff", "a\xff", "😀\xe2\x82", "\xed\xa0\xbd\xed\xb8\x80", "\xc0\x80b"} {
		if l, ok := Units(s); ok || len(l) != 0 {
			t.Errorf("Units(%q) = %v, %v", s, l, ok)
		}
	}
}

// P1.2 and R4: the answers share nothing, and the argument stays as it is.
func TestUnitsAreNewMemory(t *testing.T) {
	a, _ := Units("ab😀")
	kept := slices.Clone(a)
	if s, ok := Join(a...); s != "ab😀" || !ok || !slices.Equal(a, kept) {
		t.Errorf("Join(%v) = %q, %v; its argument is %v", kept, s, ok, a)
	}
	b, _ := Units("ab😀")
	for i := range b {
		b[i] = -1
	}
	if !slices.Equal(a, kept) {
		t.Errorf("units %v became %v", kept, a)
	}
}

// P1.3: Join takes back Units of every code point.
func TestJoinOfUnits(t *testing.T) {
	for c := range 0x110000 {
		if c >= 0xd800 && c <= 0xdfff {
			continue
		}
		s := "a" + string(rune(c)) + "€"
		l, ok := Units(s)
		if back, joins := Join(l...); !ok || !joins || back != s {
			t.Fatalf("Units(%q) = %v, %v; Join of them = %q, %v", s, l, ok, back, joins)
		}
	}
}

// P1.3: Units takes back every Join.
func TestUnitsOfJoin(t *testing.T) {
	for w := range every.List(4, edgeUnits...) {
		s, ok := Join(w...)
		if !ok {
			continue
		}
		if back, good := Units(s); !good || !slices.Equal(back, w) {
			t.Errorf("Join(%v) = %q; Units of it = %v, %v", w, s, back, good)
		}
	}
}
