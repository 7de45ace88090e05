package token

import (
	"strconv"
	"strings"

	"seine/api"
	"seine/block"
	"seine/letters"
)

const (
	threeQuotes  = `"""`
	escapedThree = `\"""`
	unitSign     = `\u`
	unitDigits   = 4
	hexDigits    = "0123456789abcdef"
)

// What stands behind a `\`, and at the same place the byte that is meant.
const (
	escapes = `"\/bfnrt`
	meant   = "\"\\/\b\f\n\r\t"
)

func quote(s string) (api.Token, int) {
	said, n := "", 0
	if strings.HasPrefix(s, threeQuotes) {
		said, n = blockQuote(s)
	} else if strings.HasPrefix(s, `"`) {
		said, n = lineQuote(s)
	}
	if n == 0 {
		return api.Token{}, 0
	}
	return api.Token{Kind: api.Quote, S: said}, n
}

// blockQuote returns the value of the block string at the beginning of s and its
// length, 0 if it has no end.
func blockQuote(s string) (string, int) {
	var raw strings.Builder
	for i := len(threeQuotes); i < len(s); {
		switch rest := s[i:]; {
		case strings.HasPrefix(rest, threeQuotes):
			return block.Value(raw.String()), i + len(threeQuotes)
		case strings.HasPrefix(rest, escapedThree):
			raw.WriteString(threeQuotes)
			i += len(escapedThree)
		default:
			raw.WriteByte(s[i])
			i++
		}
	}
	return "", 0
}

// lineQuote returns the value of the Quote within one line at the beginning of s
// and its length, 0 if there is none.
func lineQuote(s string) (string, int) {
	var out strings.Builder
	for i := 1; i < len(s); {
		switch s[i] {
		case '"':
			return out.String(), i + 1
		case '\n', '\r':
			return "", 0
		case '\\':
			said, n := escaped(s[i:])
			if n == 0 {
				return "", 0
			}
			out.WriteString(said)
			i += n
		default:
			out.WriteByte(s[i])
			i++
		}
	}
	return "", 0
}

// escaped returns what the escape sequence at the beginning of s stands for,
// together with all units that follow a unit directly, and its length, 0 if
// there is none.
func escaped(s string) (string, int) {
	var units []int
	n := 0
	for u, ok := unit(s); ok; u, ok = unit(s[n:]) {
		units = append(units, u)
		n += len(unitSign) + unitDigits
	}
	if n > 0 {
		said, ok := letters.Join(units...)
		if !ok {
			return "", 0
		}
		return said, n
	}
	if len(s) < 2 {
		return "", 0
	}
	k := strings.IndexByte(escapes, s[1])
	if k < 0 {
		return "", 0
	}
	return meant[k : k+1], 2
}

// unit returns the unit that an escape sequence at the beginning of s states,
// and whether one does.
func unit(s string) (int, bool) {
	rest, ok := strings.CutPrefix(s, unitSign)
	if !ok || len(rest) < unitDigits {
		return 0, false
	}
	u, err := strconv.ParseUint(rest[:unitDigits], 16, 16)
	return int(u), err == nil
}

// writeQuote writes s, which is Good, as a Quote within one line.
func writeQuote(out *strings.Builder, s string) {
	out.WriteByte('"')
	for _, c := range s {
		switch {
		case c == '"' || c == '\\':
			out.WriteByte('\\')
			out.WriteRune(c)
		case c == '\n':
			out.WriteString(`\n`)
		case c < 32 || c > 65535:
			writeUnits(out, string(c))
		default:
			out.WriteRune(c)
		}
	}
	out.WriteByte('"')
}

// writeUnits writes the units of s as escape sequences.
func writeUnits(out *strings.Builder, s string) {
	units, _ := letters.Units(s)
	for _, u := range units {
		out.WriteString(unitSign)
		for shift := 4 * (unitDigits - 1); shift >= 0; shift -= 4 {
			out.WriteByte(hexDigits[u>>shift&15])
		}
	}
}
