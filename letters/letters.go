// Package letters decodes UTF-8 and tells which texts are names and source texts: chapter 1.
package letters

import "strings"

// The code points from firstHalf to lastHalf encode nothing of themselves: in
// UTF-16 one of the lower half (below midHalf) and one of the upper half
// together are a code point from beyond on.
const (
	firstHalf = 55296
	midHalf   = 56320
	lastHalf  = 57343
	beyond    = 65536
	lastCode  = 1114111
	perHalf   = 1024
)

// A shape is an encoding of so many bytes. The bits of mask tell it by its
// first byte, where they are lead; a code point below least has a shorter shape.
type shape struct {
	lead, mask, least int
}

// The shape at place k has k+1 bytes.
var shapes = [4]shape{
	{0x00, 0x80, 0},
	{0xc0, 0xe0, 0x80},
	{0xe0, 0xf0, 0x800},
	{0xf0, 0xf8, 0x10000},
}

// Code returns the code point that is encoded at byte i of s and its number of
// bytes, or 0 and 0 if none is.
func Code(s string, i int) (int, int) {
	if i < 0 || i >= len(s) {
		return 0, 0
	}
next:
	for more, f := range shapes {
		first := int(s[i])
		if first&f.mask != f.lead || more >= len(s)-i {
			continue
		}
		c := first &^ f.mask
		for k := 1; k <= more; k++ {
			b := int(s[i+k])
			if b&0xc0 != 0x80 {
				continue next
			}
			c = c<<6 | b&0x3f
		}
		if c >= f.least && c <= lastCode && !half(c) {
			return c, more + 1
		}
	}
	return 0, 0
}

// Good reports whether s is a sequence of encoded code points.
func Good(s string) bool {
	return each(s, func(c int) bool { return true })
}

// Source reports whether s is Good and may be a source text.
func Source(s string) bool {
	return each(s, func(c int) bool {
		return c == 9 || c == 10 || c == 13 || c >= 32 && c < beyond
	})
}

// Name reports whether s is a name.
func Name(s string) bool {
	for i := range len(s) {
		if !letter(s[i]) && (i == 0 || !digit(s[i])) {
			return false
		}
	}
	return s != ""
}

// Join returns the string that consists of UTF-16 code units, and whether they
// make one.
func Join(units ...int) (string, bool) {
	var out strings.Builder
	for i := 0; i < len(units); i++ {
		c := units[i]
		if c < 0 || c >= beyond {
			return "", false
		}
		if half(c) {
			if i+1 == len(units) || !pair(c, units[i+1]) {
				return "", false
			}
			i++
			c = beyond + perHalf*(c-firstHalf) + units[i] - midHalf
		}
		out.WriteRune(rune(c))
	}
	return out.String(), true
}

// Units returns the UTF-16 code units of which Join makes s, and whether s is
// Good.
func Units(s string) ([]int, bool) {
	var out []int
	ok := each(s, func(c int) bool {
		if c >= beyond {
			out = append(out, firstHalf+(c-beyond)/perHalf, midHalf+(c-beyond)%perHalf)
		} else {
			out = append(out, c)
		}
		return true
	})
	if !ok {
		return nil, false
	}
	return out, true
}

// each reports whether s is a sequence of encoded code points that all fit; it
// stops at the first that does not.
func each(s string, fits func(c int) bool) bool {
	for i := 0; i < len(s); {
		c, n := Code(s, i)
		if n == 0 || !fits(c) {
			return false
		}
		i += n
	}
	return true
}

func half(c int) bool { return c >= firstHalf && c <= lastHalf }

func pair(a, b int) bool {
	return a >= firstHalf && a < midHalf && b >= midHalf && b <= lastHalf
}

func letter(b byte) bool {
	return b >= 'a' && b <= 'z' || b >= 'A' && b <= 'Z' || b == '_'
}

func digit(b byte) bool { return b >= '0' && b <= '9' }
