package impl

import (
	"strconv"
	"strings"
)

// NumMax is the greatest number, TokMax how many bytes a name has at most.
const (
	NumMax = 999999
	TokMax = 12
)

// class is a kind of bytes; 0 is every byte that no rule of this chapter names.
type class uint8

const (
	classToken class = 1 + iota
	classUpper
)

// byteClasses ends at the last byte with a class, to stay a short table: classOf answers for the bytes past it.
var byteClasses = [...]class{
	'-': classToken,
	'0': classToken, '1': classToken, '2': classToken, '3': classToken, '4': classToken,
	'5': classToken, '6': classToken, '7': classToken, '8': classToken, '9': classToken,
	'A': classUpper, 'B': classUpper, 'C': classUpper, 'D': classUpper, 'E': classUpper,
	'F': classUpper, 'G': classUpper, 'H': classUpper, 'I': classUpper, 'J': classUpper,
	'K': classUpper, 'L': classUpper, 'M': classUpper, 'N': classUpper, 'O': classUpper,
	'P': classUpper, 'Q': classUpper, 'R': classUpper, 'S': classUpper, 'T': classUpper,
	'U': classUpper, 'V': classUpper, 'W': classUpper, 'X': classUpper, 'Y': classUpper,
	'Z': classUpper,
	'a': classToken, 'b': classToken, 'c': classToken, 'd': classToken, 'e': classToken,
	'f': classToken, 'g': classToken, 'h': classToken, 'i': classToken, 'j': classToken,
	'k': classToken, 'l': classToken, 'm': classToken, 'n': classToken, 'o': classToken,
	'p': classToken, 'q': classToken, 'r': classToken, 's': classToken, 't': classToken,
	'u': classToken, 'v': classToken, 'w': classToken, 'x': classToken, 'y': classToken,
	'z': classToken,
}

func classOf(c byte) class {
	if int(c) < len(byteClasses) {
		return byteClasses[c]
	}
	return 0
}

// text is a string taken byte by byte: it may hold any bytes, so nothing here decodes runes.
type text string

func (t text) only(k class) bool {
	for i := range len(t) {
		if classOf(t[i]) != k {
			return false
		}
	}
	return true
}

func (t text) lower() text {
	small := []byte(t)
	for i, c := range small {
		if classOf(c) == classUpper {
			small[i] = c - 'A' + 'a'
		}
	}
	return text(small)
}

// trim leaves tabs and newlines alone, which strings.TrimSpace would remove.
func (t text) trim() text {
	return text(strings.Trim(string(t), " "))
}

func (t text) cut(c byte) (text, text, bool) {
	at := strings.IndexByte(string(t), c)
	if at < 0 {
		return t, "", false
	}
	return t[:at], t[at+1:], true
}

// fresh copies, because a result shares no memory with an argument.
func (t text) fresh() string {
	return strings.Clone(string(t))
}

func numOk(n int) bool {
	return n >= 0 && n <= NumMax
}

// TokOk says whether a text is a name.
func TokOk(s string) bool {
	return len(s) >= 1 && len(s) <= TokMax && text(s).only(classToken)
}

// NumText writes a number.
func NumText(n int) string {
	if !numOk(n) {
		return ""
	}
	return strconv.Itoa(n)
}

// NumRead reads a number.
func NumRead(s string) (int, bool) {
	n, err := strconv.Atoi(s)
	// Atoi also takes signs, leading zeros and greater numbers: only what is written back the same is a number text.
	if err != nil || NumText(n) != s {
		return 0, false
	}
	return n, true
}

// TxtLower is a text with small letters in the place of great ones.
func TxtLower(s string) string {
	return string(text(s).lower())
}

// TxtTrim is a text without spaces at its ends.
func TxtTrim(s string) string {
	return text(s).trim().fresh()
}

// TxtCut is a text up to the first byte that is one, and what is behind that; false, if there is none.
func TxtCut(s string, c byte) (string, string, bool) {
	head, rest, found := text(s).cut(c)
	return head.fresh(), rest.fresh(), found
}

// TxtParts is the parts of a text between bytes that are one.
func TxtParts(s string, c byte) []string {
	var parts []string
	rest, more := text(s), true
	for more {
		var head text
		head, rest, more = rest.cut(c)
		parts = append(parts, head.fresh())
	}
	return parts
}
