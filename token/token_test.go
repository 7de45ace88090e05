package token

import (
	"encoding/json"
	"regexp"
	"slices"
	"strconv"
	"strings"
	"testing"
	"unicode/utf16"
	"unicode/utf8"

	"seine/api"
	"seine/block"
	"seine/every"
)

func tok(kind int, s string) api.Token { return api.Token{Kind: kind, S: s} }

// show tells tokens as a fault's message needs them.
func show(l ...api.Token) string {
	out := ""
	for _, x := range l {
		out += strconv.Itoa(x.Kind) + strconv.Quote(x.S) + " "
	}
	return "[" + out + "]"
}

var (
	gapOf    = regexp.MustCompile(`^(?:[\t\n\r ,\x{feff}]|#[^\n\r]*)*`)
	markOf   = regexp.MustCompile(`^(?:\.\.\.|[!$&():=@\[\]{|}])`)
	wordOf   = regexp.MustCompile(`^[A-Z_a-z][0-9A-Z_a-z]*`)
	numberOf = regexp.MustCompile(`^-?(?:0|[1-9][0-9]*)(\.[0-9]+)?([Ee][+-]?[0-9]+)?`)
	behindOf = regexp.MustCompile(`^[0-9.A-Z_a-z]`)
	lineOf   = regexp.MustCompile(`^"(?:[^"\\\n\r]|\\["\\/bfnrt]|\\u[0-9A-Fa-f]{4})*"`)
	unitsOf  = regexp.MustCompile(`(?:\\u[0-9A-Fa-f]{4})+|\\.|[^\\]`)
)

// joins reports whether a row of `\u` units are a text together, by the library's decoder.
func joins(row string) bool {
	var units []uint16
	for _, h := range strings.Split(row, `\u`)[1:] {
		u, err := strconv.ParseUint(h, 16, 16)
		if err != nil {
			panic(row)
		}
		units = append(units, uint16(u))
	}
	return slices.Equal(utf16.Encode(utf16.Decode(units)), units)
}

// lineSays says what a Quote within one line must say, by the library's JSON.
func lineSays(text string) (string, bool) {
	for _, p := range unitsOf.FindAllString(text, -1) {
		if strings.HasPrefix(p, `\u`) && !joins(p) {
			return "", false
		}
	}
	var said string
	if err := json.Unmarshal([]byte(strings.ReplaceAll(text, "\t", `\t`)), &said); err != nil {
		panic(text)
	}
	return said, true
}

// tokenOf says which token s must begin with, and its length; 0: with none.
func tokenOf(s string) (api.Token, int) {
	if rest, ok := strings.CutPrefix(s, `"""`); ok {
		held, _, ends := strings.Cut(strings.ReplaceAll(rest, `\"""`, "\x00"), `"""`)
		if !ends {
			return api.Token{}, 0
		}
		n := len(held) + 3*strings.Count(held, "\x00") + 6
		return tok(api.Quote, block.Value(strings.ReplaceAll(held, "\x00", `"""`))), n
	}
	if text := lineOf.FindString(s); text != "" {
		if said, ok := lineSays(text); ok {
			return tok(api.Quote, said), len(text)
		}
		return api.Token{}, 0
	}
	if m := numberOf.FindStringSubmatch(s); m != nil {
		if behindOf.MatchString(s[len(m[0]):]) {
			return api.Token{}, 0
		}
		if m[1]+m[2] != "" {
			return tok(api.Point, m[0]), len(m[0])
		}
		return tok(api.Digits, m[0]), len(m[0])
	}
	if text := wordOf.FindString(s); text != "" {
		return tok(api.Word, text), len(text)
	}
	text := markOf.FindString(s)
	return tok(api.Punct, text), len(text)
}

// readOf says what Read must answer, by the library's patterns.
func readOf(s string) ([]api.Token, api.Errno) {
	if len(s) > 8192 {
		return nil, api.ErrSize
	}
	good := utf8.ValidString(s)
	for _, c := range s {
		good = good && c < 65536 && (c >= 32 || c == '\t' || c == '\n' || c == '\r')
	}
	if !good {
		return nil, api.ErrForm
	}
	var out []api.Token
	for {
		s = s[len(gapOf.FindString(s)):]
		if s == "" {
			return out, api.OK
		}
		t, n := tokenOf(s)
		if n == 0 {
			return nil, api.ErrForm
		}
		out = append(out, t)
		s = s[n:]
	}
}

func sameRead(t *testing.T, s string) {
	t.Helper()
	l, e := Read(s)
	if want, wantE := readOf(s); e != wantE || !slices.Equal(l, want) {
		t.Fatalf("Read(%q) = %s, %d, want %s, %d", s, show(l...), e, show(want...), wantE)
	}
}

// reads holds what Read answers against tokens that are written out.
func reads(t *testing.T, s string, want ...api.Token) {
	t.Helper()
	if l, e := Read(s); e != api.OK || !slices.Equal(l, want) {
		t.Errorf("Read(%q) = %s, %d, want %s", s, show(l...), e, show(want...))
	}
	sameRead(t, s)
}

func refuses(t *testing.T, e api.Errno, l ...string) {
	t.Helper()
	for _, s := range l {
		if got, gotE := Read(s); len(got) != 0 || gotE != e {
			t.Errorf("Read(%q) = %s, %d, want the error %d", s, show(got...), gotE, e)
		}
		sameRead(t, s)
	}
}

// P3.1: each Punct, side by side; no other byte is one.
func TestMarks(t *testing.T) {
	reads(t, "!$&()...:=@[]{|}", tok(1, "!"), tok(1, "$"), tok(1, "&"), tok(1, "("), tok(1, ")"), tok(1, "..."), tok(1, ":"), tok(1, "="), tok(1, "@"), tok(1, "["), tok(1, "]"), tok(1, "{"), tok(1, "|"), tok(1, "}"))
	reads(t, "......a...", tok(1, "..."), tok(1, "..."), tok(2, "a"), tok(1, "..."))
	refuses(t, api.ErrForm, ".", "..", "....", ".....", ". ..", ".. .", ".\ufeff..", "..a", "a.", "a..", "a.b")
}

// P3.1 and P3.2: every byte by itself, and beside others.
func TestEveryByte(t *testing.T) {
	for b := range 256 {
		c := string([]byte{byte(b)})
		for _, s := range []string{c, "a" + c + "b", "0" + c + "0", "-" + c, c + "..", `"` + c + `"`, `"""` + c + `"""`, `"\` + c + `"`, "#" + c + "a", " " + c + "1 "} {
			sameRead(t, s)
		}
	}
}

// P3.1: every short text of marks, words and gaps.
func TestEveryTextOfWords(t *testing.T) {
	for s := range every.Text(5, ".", "...", "$", "}", "a", "_Z", "9", ",", "\r", "#", "\ufeff") {
		sameRead(t, s)
	}
}

// P3.1: a Word is as long as possible.
func TestWords(t *testing.T) {
	reads(t, "a _ __ A9_z null on9:Z0", tok(2, "a"), tok(2, "_"), tok(2, "__"), tok(2, "A9_z"), tok(2, "null"), tok(2, "on9"), tok(1, ":"), tok(2, "Z0"))
	reads(t, `a"b"c`, tok(2, "a"), tok(5, "b"), tok(2, "c"))
	reads(t, "a-1", tok(2, "a"), tok(3, "-1"))
	long := strings.Repeat("aZ_9", 2048)
	reads(t, long, tok(2, long))
	refuses(t, api.ErrForm, "é", "aé", "ª", "a٣", "1a", "%", "a?", "a-b", "a+1", "a~", "^", "'a'", "`a`", `\`, "/", "*", ";", "<", ">")
}

// P3.1: Digits and Point, and what may follow them.
func TestNumbers(t *testing.T) {
	reads(t, "0 -0 7 10 -905", tok(3, "0"), tok(3, "-0"), tok(3, "7"), tok(3, "10"), tok(3, "-905"))
	reads(t, "0.0 -0.10 12.34 1e5 1E5 -1e+05 2E-00 0e0 1.5e3 -1.50E-7", tok(4, "0.0"), tok(4, "-0.10"), tok(4, "12.34"), tok(4, "1e5"), tok(4, "1E5"), tok(4, "-1e+05"), tok(4, "2E-00"), tok(4, "0e0"), tok(4, "1.5e3"), tok(4, "-1.50E-7"))
	reads(t, "1-2-3", tok(3, "1"), tok(3, "-2"), tok(3, "-3"))
	reads(t, "1.5-1e5-0", tok(4, "1.5"), tok(4, "-1e5"), tok(3, "-0"))
	reads(t, "1,2{3}4\"5\"6#7\r8\ufeff9", tok(3, "1"), tok(3, "2"), tok(1, "{"), tok(3, "3"), tok(1, "}"), tok(3, "4"), tok(5, "5"), tok(3, "6"), tok(3, "8"), tok(3, "9"))
	long := "-" + strings.Repeat("9", 4000) + "." + strings.Repeat("0", 2000) + "e" + strings.Repeat("7", 2000)
	reads(t, long, tok(4, long))
	refuses(t, api.ErrForm, "01", "00", "-01", "-00", "00.5", "01e1", "1a", "1_", "1Z", "0x1", "1.5a", "1.5_", "1e5a", "1e5.", "1.5.2", "1.5e1.5", "1e1e1",
		"1.", "1.a", "1.e1", "1.-1", "1...", "1.5...", "0...", "1e", "1E", "1e+", "1e-", "1e+-1", "1ea", "1.5e", "1.5e+", "-", "--1", "-a", "- 1", "-.5", "-e1", ".5", "+1", "1+1", "1é")
}

// P3.1: every short text of what numbers are made of, for Read and for Number.
func TestEveryNumber(t *testing.T) {
	for s := range every.Text(6, "0", "1", "-", "+", ".", "e", "E", "a", " ") {
		sameRead(t, s)
		l, e := readOf(s)
		want := 0
		if e == api.OK && len(l) == 1 && l[0].S == s && (l[0].Kind == api.Digits || l[0].Kind == api.Point) {
			want = l[0].Kind
		}
		if got := Number(s); got != want {
			t.Fatalf("Number(%q) = %d, want %d", s, got, want)
		}
	}
}

// P3.1: Number takes the whole of a text, and no other text.
func TestNumber(t *testing.T) {
	for s, want := range map[string]int{
		"0": 3, "-0": 3, "12": 3, "-9223372036854775809": 3, "1.5": 4, "1e5": 4, "-1.0E+3": 4, "0.00": 4,
		"": 0, "-": 0, "a": 0, "on": 0, "{": 0, "...": 0, `"1"`: 0, "01": 0, "00.1": 0, "1.": 0, "1e": 0, "+1": 0, " 1": 0, "1 ": 0, "1,": 0, "1\n": 0, "1#": 0, "0x1": 0,
		"1 2": 0, "1-2": 0, "1.5 2": 0, "1a": 0, "1\xff": 0, "\xff": 0, "1\x00": 0, "1é": 0, "٣": 0, "１": 0, "1_0": 0, "Inf": 0, "NaN": 0, "\ufeff1": 0,
	} {
		if got := Number(s); got != want {
			t.Errorf("Number(%q) = %d, want %d", s, got, want)
		}
	}
	if got := Number("1" + strings.Repeat("0", 100000)); got != api.Digits {
		t.Errorf("Number of a long text = %d", got)
	}
	if got := Number("-1." + strings.Repeat("0", 100000)); got != api.Point {
		t.Errorf("Number of a long fraction = %d", got)
	}
}

// P3.1: a Quote within one line, and each of its escape sequences.
func TestLineQuotes(t *testing.T) {
	reads(t, `"" "a" "é#,{" "'"`, tok(5, ""), tok(5, "a"), tok(5, "é#,{"), tok(5, "'"))
	reads(t, `"a""b"c"d"`, tok(5, "a"), tok(5, "b"), tok(2, "c"), tok(5, "d"))
	reads(t, `"\"\\\/\b\f\n\r\t"`, tok(5, "\"\\/\x08\x0c\x0a\x0d\x09"))
	reads(t, `"\\" "\\\\" "\\n" "\\u0041" "x\"y"`, tok(5, `\`), tok(5, `\\`), tok(5, `\n`), tok(5, `\u0041`), tok(5, `x"y`))
	reads(t, "\"\t\ufeff\u2028\u0085\x7f\uffff\"", tok(5, "\t\ufeff\u2028\u0085\x7f\uffff"))
	reads(t, `"`+strings.Repeat("é", 4095)+`"`, tok(5, strings.Repeat("é", 4095)))
	refuses(t, api.ErrForm, `"`, `"a`, `a"`, `"a" "`, `"\"`, `"\`, `"\\\"`, "\"a\nb\"", "\"a\rb\"", "\"\n\"", `"\x"`, `"\a"`, `"\v"`, `"\0"`, `"\'"`, `"\U0041"`, `"\N"`, `"\ "`, "\"\\\n\"", `"\é"`, `'a'`, "\"\x00\"", "\"\x1f\"", `"😀"`,
		`"#`, `"#\x"`, `"#\`, "\"#\n\"", `"#\u12"`, `"#\ud83d"`) // a comment hides nothing of a Quote
}

// P3.1: every byte behind a `\`.
func TestEveryEscape(t *testing.T) {
	meant := map[byte]string{'"': "\"", '\\': "\\", '/': "/", 'b': "\x08", 'f': "\x0c", 'n': "\x0a", 'r': "\x0d", 't': "\x09"}
	for b := range 128 {
		s := `"a\` + string(rune(b)) + `z"`
		l, e := Read(s)
		if said, ok := meant[byte(b)]; ok != (e == api.OK) || ok && !slices.Equal(l, []api.Token{tok(5, "a"+said+"z")}) {
			t.Errorf("Read(%q) = %s, %d", s, show(l...), e)
		}
	}
}

// P3.1: `\u` units; those that follow one another directly are joined, no others are.
func TestUnits(t *testing.T) {
	reads(t, `"\u0041\u00e9\u20AC\uFfFf\u0000\u0022\u005c\u000A"`, tok(5, "Aé€\uffff\x00\"\\\n"))
	reads(t, `"\u00411"`, tok(5, "A1"))
	reads(t, `"\uD83D\ude00"`, tok(5, "😀"))
	reads(t, `"x\u0041\ud83d\ude00\udbff\udfff\ud800\udc00\u0042y"`, tok(5, "xA😀\U0010ffff\U00010000By"))
	reads(t, `"\ud7ff\ue000" "\u0041b\u0043\n\u0044"`, tok(5, "\ud7ff\ue000"), tok(5, "AbC\nD"))
	refuses(t, api.ErrForm, `"\ud83d"`, `"\ude00"`, `"\ude00\ud83d"`, `"\ud83d\ud83d\ude00"`, `"\ud83d\ude00\ude00"`, `"\ud83d\u0041\ude00"`, `"\u0041\ud83d"`, `"\ud83d \ude00"`, `"\ud83d\n\ude00"`, `"\ud83dx"`, `"x\ude00"`, `"\ud83d" "\ude00"`, `"\ud83d\"`,
		`"\u"`, `"\u1"`, `"\u12"`, `"\u123"`, `"\u12g4"`, `"\ug123"`, `"\u123g"`, `"\u+123"`, `"\u-123"`, `"\u 123"`, `"\u0x1"`, `"\u1_2"`, `"\u{41}"`, `"\u004`, `"\u0041`, `"\u`, `"\u0041\u12"`, `"\u00é"`, `"\u004"1`, `"\ud83d\ude0"`)
}

// P3.1: every unit by itself, in lower and in upper case, and every row of edge units.
func TestEveryUnit(t *testing.T) {
	hex := func(u int) string { return `\u` + strconv.FormatInt(int64(65536+u), 16)[1:] }
	for u := range 65536 {
		text := hex(u)
		lower, e := Read(`"` + text + `"`)
		upper, upperE := Read(`"\u` + strings.ToUpper(text[2:]) + `"`)
		if alone := u < 55296 || u > 57343; alone {
			if want := []api.Token{tok(5, string(rune(u)))}; e != api.OK || !slices.Equal(lower, want) || upperE != api.OK || !slices.Equal(upper, want) {
				t.Fatalf("unit %s is %s, %d and %s, %d", text, show(lower...), e, show(upper...), upperE)
			}
		} else if e != api.ErrForm || upperE != api.ErrForm {
			t.Fatalf("unit %s is %s, %d and %s, %d", text, show(lower...), e, show(upper...), upperE)
		}
	}
	for s := range every.Text(4, hex(0), hex(0x41), hex(0xd7ff), hex(0xd800), hex(0xdbff), hex(0xdc00), hex(0xdfff), hex(0xe000), `\\`, "u", " ") {
		sameRead(t, `"`+s+`"`)
	}
}

// P3.1: block strings, their `\"""` and what is within them.
func TestBlockQuotes(t *testing.T) {
	reads(t, `"""a"""`, tok(5, "a"))
	reads(t, `""""""`, tok(5, ""))
	reads(t, `"""""" """ a b """`, tok(5, ""), tok(5, " a b "))
	reads(t, `"""a" b "" c"""`, tok(5, `a" b "" c`))
	reads(t, `"""\""""""`, tok(5, `"""`))
	reads(t, `"""a\"""b\"""\"""c"""`, tok(5, `a"""b""""""c`))
	reads(t, `"""\\""""""`, tok(5, `\"""`))
	reads(t, `"""\\""""""""`, tok(5, `\"""`), tok(5, ""))
	reads(t, `"""\n\u0041\x\" \""a\ """`, tok(5, `\n\u0041\x\" \""a\ `))
	reads(t, "\"\"\"\r\n  a\n    b\r\t\"\"\"", tok(5, "a\n  b"))
	reads(t, "\"\"\"\n   \\\"\"\"\n     x\n\"\"\"", tok(5, "\"\"\"\n  x"))
	reads(t, "\"\"\" # no comment, \ufeff\t\n\"\"\"b", tok(5, " # no comment, \ufeff\t"), tok(2, "b"))
}

// P3.1: a block string is as short as possible, and three quotes always begin one.
func TestEndsOfBlockQuotes(t *testing.T) {
	reads(t, `"""a"""""`, tok(5, "a"), tok(5, ""))
	reads(t, `"""a"" """`, tok(5, `a"" `))
	reads(t, `"""""a"""`, tok(5, `""a`))
	reads(t, `"""a""""b"`, tok(5, "a"), tok(5, "b"))
	reads(t, `"""a""""""b"""`, tok(5, "a"), tok(5, "b"))
	reads(t, `""""""""`, tok(5, ""), tok(5, ""))
	reads(t, `"" """a"""""`, tok(5, ""), tok(5, "a"), tok(5, ""))
	refuses(t, api.ErrForm, `"""`, `""""`, `"""""`, `"""a`, `"""a"`, `"""a""`, `"""a\"""`, `"""a\""""`, `"""a\"""""`, `"""a"""""""`, `"""a""""`, `"""""""`, `"""\\"""`, `"""\`, `"""a\""" #"""b`+`"`, "\"\"\"\x00\"\"\"", `"""😀"""`)
}

// P3.1: every short text of what Quotes are made of.
func TestEveryQuote(t *testing.T) {
	for s := range every.Text(7, `"`, `""`, `\`, "a", "\n") {
		sameRead(t, s)
		sameRead(t, `"""`+s)
	}
	for s := range every.Text(6, `"`, `"""`, `\`, "n", "u0041", "#") {
		sameRead(t, `"`+s)
	}
}

// P3.2: what stands between tokens, also where there are none.
func TestGaps(t *testing.T) {
	for _, s := range []string{"", " ", ",", ",,,", "\t\n\r ", "\ufeff", "\ufeff\ufeff", "#", "##", "# a { \" \"\"\" \\ \x7f é\uffff", "#\n", "#a\r#b\r\n#c", " #\ufeff"} {
		reads(t, s)
	}
	reads(t, "\ufeffa\ufeff,b,,\t,c\r\nd\rd", tok(2, "a"), tok(2, "b"), tok(2, "c"), tok(2, "d"), tok(2, "d"))
	reads(t, "a#b\nc#d\re#f\r\ng#", tok(2, "a"), tok(2, "c"), tok(2, "e"), tok(2, "g"))
	reads(t, "{#}\n}", tok(1, "{"), tok(1, "}"))
	reads(t, "#\"\n\"#\"", tok(5, "#"))
	reads(t, "1#.5\u2028.5\n2", tok(3, "1"), tok(3, "2"))
	refuses(t, api.ErrForm, "\v", "\f", "\x00", "\x1f", "\u00a0", "\u0085", "\u2028", "\u3000", "\u200b", "\ufffe", ";", "a\va", "#\x00", "#😀", "#\x0b", "//a", "/*a*/")
	// The bytes of 65279 count together alone.
	refuses(t, api.ErrForm, "\xef\xbb", "\xbb\xbf", "\xfe\xff", "\uffef", "\ufefe", "\uff1a")
}

// P3.2: the whole text has to be a Source, wherever what is none stands.
func TestReadOfNoSource(t *testing.T) {
	for _, bad := range []string{"\xff", "\x80", "\xc0\x80", "\xe2\x82", "\xed\xa0\x80", "\xf4\x90\x80\x80", "😀", "\U00010000", "\U0010ffff", "\x00", "\x08", "\x0b", "\x0c", "\x0e", "\x1f"} {
		for _, s := range []string{bad, "a " + bad, bad + " a", "#" + bad, `"` + bad + `"`, `"""` + bad + `"""`, "{" + bad + "}", "#\n" + bad} {
			refuses(t, api.ErrForm, s)
		}
	}
}

// P3.2: a text of just MaxText bytes, and one of one more, of whatever bytes.
func TestReadOfLongTexts(t *testing.T) {
	for _, c := range []struct{ begin, more, end string }{{"", " ", ""}, {"", "a", ""}, {"", "{", ""}, {"#", "a", ""}, {`"`, "a", `"`}, {`"""`, "a", `"""`}, {"", "1", ""}, {"-1.", "0", ""}, {"", ",", "a"}} {
		fill := strings.Repeat(c.more, 8192-len(c.begin)-len(c.end))
		s := c.begin + fill + c.end
		if _, e := Read(s); e != api.OK {
			t.Errorf("Read of %d bytes, %q and so on: error %d", len(s), s[:5], e)
		}
		sameRead(t, s)
		refuses(t, api.ErrSize, c.begin+fill+c.more+c.end)
	}
	refuses(t, api.ErrForm, strings.Repeat("\xff", 8192), strings.Repeat("%", 8192), strings.Repeat("0", 8192))
	refuses(t, api.ErrSize, strings.Repeat("\xff", 8193), strings.Repeat("%", 8193), `"`+strings.Repeat("é", 4096), strings.Repeat("{", 100000), strings.Repeat(`"`, 8193))
}

// P3.2: an answer with an error holds no token, however many came ahead of it.
func TestReadOfWhatEndsBadly(t *testing.T) {
	refuses(t, api.ErrForm, "{a(b:-1)}%", "{ a } 01", `{ a(b: "c) }`, `query { a } """`, "a b c ..", "{a}\x00")
}

// R4: each answer is a list of its own, up to its capacity.
func TestReadIsNewMemory(t *testing.T) {
	const s = "{ a b c d }"
	a, _ := Read(s)
	b, _ := Read(s)
	for k := range a[:cap(a)] {
		a[:cap(a)][k] = tok(5, "other")
	}
	if want, _ := readOf(s); !slices.Equal(b, want) {
		t.Errorf("the other answer became %s", show(b...))
	}
}

// wrong are tokens that Read could never return.
func wrong() []api.Token {
	l := []api.Token{{}}
	for _, kind := range []int{-1, 0, 6, 1 << 40, -1 << 63} {
		for _, s := range []string{"", "a", "{", "1", "1.5"} {
			l = append(l, tok(kind, s))
		}
	}
	for kind, texts := range map[int][]string{
		api.Punct:  {"", ".", "..", "....", "......", "!$", "! ", " !", "{}", ",", "#", "-", "a", "0", `"`, "\ufeff", "\xff", "%"},
		api.Word:   {"", "9", "9a", "a b", "a ", " a", "a-", "{", "é", "aé", "a\xff", "\xff", `"a"`, "a\x00", "..."},
		api.Digits: {"", "-", "01", "-01", "1.0", "1e5", "1 ", " 1", "1a", "a", "+1", "1\xff", "1,2", "１"},
		api.Point:  {"", "-", "1", "-0", "1.", ".5", "1e", "1.5.", "01.5", "1.5 ", "1.5a", "a", "1.5\xff", "...", "Inf"},
		api.Quote:  {"\xff", "a\x80", "\xe2\x82", "\xed\xa0\x80", "\xed\xa0\xbd\xed\xb8\x80", "\xc0\x80", "\xf4\x90\x80\x80"},
	} {
		for _, s := range texts {
			l = append(l, tok(kind, s))
		}
	}
	return l
}

// P3.3: Right holds for what Read could return, of any length.
func TestRight(t *testing.T) {
	for _, x := range wrong() {
		if Right(x) {
			t.Errorf("Right(%d %q) = true", x.Kind, x.S)
		}
	}
	long := strings.Repeat("9", 100000)
	for kind, texts := range map[int][]string{
		api.Punct:  {"!", "$", "&", "(", ")", "...", ":", "=", "@", "[", "]", "{", "|", "}"},
		api.Word:   {"a", "_", "on", "null", "Z9_", "a" + long},
		api.Digits: {"0", "-0", "12", "-12", long},
		api.Point:  {"0.0", "1e5", "-1.5E-07", "1." + long},
		api.Quote:  {"", "a", "\"", "\"\"\"", "\\", "\x00\x1f\n\r", "é", "\uffff", "😀", "\U0010ffff", "{", "1", long},
	} {
		for _, s := range texts {
			if x := tok(kind, s); !Right(x) {
				t.Errorf("Right(%d %.20q) = false", x.Kind, x.S)
			}
		}
	}
}

// P3.3: of every short text of each kind, those are Right that stand somewhere as tokens.
func TestRightOfEveryText(t *testing.T) {
	for s := range every.Text(4, ".", "{", "$", "a", "_", "0", "1", "-", "e", `"`, " ", "é", "\xff") {
		l, e := readOf(s)
		for _, kind := range []int{api.Punct, api.Word, api.Digits, api.Point} {
			x := tok(kind, s)
			if got, want := Right(x), e == api.OK && slices.Equal(l, []api.Token{x}); got != want {
				t.Fatalf("Right(%d %q) = %v", kind, s, got)
			}
		}
		if got, want := Right(tok(api.Quote, s)), utf8.ValidString(s); got != want {
			t.Fatalf("Right(5 %q) = %v", s, got)
		}
	}
}

// P3.3: what tokens are printed as.
func TestPrint(t *testing.T) {
	for _, c := range []struct {
		l    []api.Token
		want string
	}{
		{nil, ""},
		{[]api.Token{}, ""},
		{[]api.Token{tok(1, "{")}, "{"},
		{[]api.Token{tok(1, "{"), tok(2, "a"), tok(3, "-1"), tok(4, "1.5e3"), tok(1, "..."), tok(1, "}")}, "{ a -1 1.5e3 ... }"},
		{[]api.Token{tok(5, "")}, `""`},
		{[]api.Token{tok(5, ""), tok(5, ""), tok(2, "a")}, `"" "" a`},
		{[]api.Token{tok(5, `a"b`), tok(5, `a\b`), tok(5, "a/b"), tok(5, "a\nb")}, `"a\"b" "a\\b" "a/b" "a\nb"`},
		{[]api.Token{tok(5, `"""`), tok(5, `\n`), tok(5, " , #")}, `"\"\"\"" "\\n" " , #"`},
		{[]api.Token{tok(5, "\x00\x01\x08\t\n\x0b\x0c\r\x1f !")}, `"\u0000\u0001\u0008\u0009\n\u000b\u000c\u000d\u001f !"`},
		{[]api.Token{tok(5, "\x7f\u0085é€\ufeff\ufffd\uffff")}, "\"\x7f\u0085é€\ufeff\ufffd\uffff\""},
		{[]api.Token{tok(5, "😀\U00010000\U0010ffffA\U000fabcd")}, `"\ud83d\ude00\ud800\udc00\udbff\udfffA\udbaa\udfcd"`},
	} {
		if got, ok := Print(c.l...); got != c.want || !ok {
			t.Errorf("Print(%s) = %q, %v, want %q", show(c.l...), got, ok, c.want)
		}
	}
}

// P3.3: a token that is not Right is refused, wherever it stands.
func TestPrintOfWrongTokens(t *testing.T) {
	for _, x := range wrong() {
		for _, l := range [][]api.Token{{x}, {tok(2, "a"), x}, {x, tok(2, "a")}, {tok(1, "{"), x, tok(1, "}")}, {tok(5, ""), tok(5, "a"), x}} {
			if s, ok := Print(l...); s != "" || ok {
				t.Errorf("Print(%s) = %q, %v", show(l...), s, ok)
			}
		}
	}
}

// P3.3 and P3.4: how each code point is printed within a Quote, and that it is read back.
func TestPrintOfEveryCodePoint(t *testing.T) {
	hex := func(u uint16) string { return `\u` + strconv.FormatInt(65536+int64(u), 16)[1:] }
	for c := range rune(0x110000) {
		if c >= 0xd800 && c <= 0xdfff {
			continue
		}
		want := string(c)
		switch {
		case c == '"' || c == '\\':
			want = `\` + want
		case c == '\n':
			want = `\n`
		case c < 32 || c > 65535:
			want = ""
			for _, u := range utf16.Encode([]rune{c}) {
				want += hex(u)
			}
		}
		x := tok(5, "a"+string(c))
		s, ok := Print(x)
		if !ok || s != `"a`+want+`"` {
			t.Fatalf("Print(%s) = %q, %v", show(x), s, ok)
		}
		if l, e := Read(s); e != api.OK || !slices.Equal(l, []api.Token{x}) {
			t.Fatalf("Read(%q) = %s, %d", s, show(l...), e)
		}
	}
}

// R4: the tokens stay as they are, also behind the end of their list.
func TestPrintKeepsItsTokens(t *testing.T) {
	l := []api.Token{tok(1, "{"), tok(5, "a\"\x00😀"), tok(1, "}"), tok(2, "beyond")}
	kept := slices.Clone(l)
	if s, ok := Print(l[:3]...); s != `{ "a\"\u0000\ud83d\ude00" }` || !ok || !slices.Equal(l, kept) {
		t.Errorf("Print = %q, %v; its tokens are %s", s, ok, show(l...))
	}
}

// P3.4: every short row of tokens is read back as it was printed.
func TestReadOfPrint(t *testing.T) {
	some := []api.Token{tok(1, "..."), tok(1, "$"), tok(1, "}"), tok(2, "a"), tok(2, "e5"), tok(3, "0"), tok(3, "-12"), tok(4, "1.5"), tok(4, "1e5"), tok(5, ""), tok(5, `"`), tok(5, `"""`), tok(5, "\\"), tok(5, "\n\r\t\x00"), tok(5, "\x01😀\U0010ffff\x02"), tok(5, "# ,\ufeff")}
	var grow func(l []api.Token)
	grow = func(l []api.Token) {
		s, ok := Print(l...)
		back, e := Read(s)
		if !ok || e != api.OK || !slices.Equal(back, l) {
			t.Fatalf("Print(%s) = %q, %v; Read of it = %s, %d", show(l...), s, ok, show(back...), e)
		}
		for k := 0; len(l) < 4 && k < len(some); k++ {
			grow(append(slices.Clip(l), some[k]))
		}
	}
	grow(nil)
}

// P3.4: what Read returns is Right, and is read again from its print; up to MaxText bytes.
func TestPrintOfRead(t *testing.T) {
	for s := range every.Text(4, `"`, `"""`, `\"""`, `\u0041`, `\ud83d\ude00`, "{", "...", "a", "1", ".5", "-", " ", "\n", "é") {
		l, e := Read(s)
		if e != api.OK {
			continue
		}
		p, ok := Print(l...)
		if back, e := Read(p); !ok || e != api.OK || !slices.Equal(back, l) {
			t.Fatalf("Read(%q) = %s; Print of them = %q, %v; Read of it = %s, %d", s, show(l...), p, ok, show(back...), e)
		}
	}
	just, beyond := tok(5, strings.Repeat("\x00", 1365)), tok(5, strings.Repeat("\x00", 1365)+"a")
	if s, ok := Print(just); !ok || len(s) != 8192 {
		t.Errorf("Print: %d bytes, %v", len(s), ok)
	} else {
		reads(t, s, just)
	}
	if s, ok := Print(beyond); !ok || len(s) != 8193 {
		t.Errorf("Print: %d bytes, %v", len(s), ok)
	} else {
		refuses(t, api.ErrSize, s)
	}
}
