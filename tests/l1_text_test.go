package tests

import (
	"math"
	"strconv"
	"strings"
	"testing"

	"loop.example/godown/impl"
)

const tokenBytes = "abcdefghijklmnopqrstuvwxyz0123456789-"

func TestConstantsOfText(t *testing.T) {
	if impl.NumMax != 999999 || impl.TokMax != 12 {
		t.Fatal(impl.NumMax, impl.TokMax)
	}
}

// wantToken states P9 by another means than the program's table.
func wantToken(s string) bool {
	return len(s) >= 1 && len(s) <= 12 && strings.Trim(s, tokenBytes) == ""
}

func checkToken(t *testing.T, s string) {
	t.Helper()
	ok := impl.TokOk(s)
	if ok != wantToken(s) {
		t.Fatalf("TokOk(%q) is %v", s, ok)
	}
	if ok && (impl.TxtLower(s) != s || impl.TxtTrim(s) != s) {
		t.Fatalf("TxtLower or TxtTrim changes the token %q", s)
	}
}

func TestP9TokenOfEveryByte(t *testing.T) {
	for c := range 256 {
		one := string([]byte{byte(c)})
		for _, s := range []string{one, one + "a", "a" + one, "a" + one + "a", strings.Repeat(one, 12), strings.Repeat(one, 13), strings.Repeat("a", 11) + one} {
			checkToken(t, s)
		}
	}
}

func TestP9TokenLengths(t *testing.T) {
	for n := range 300 {
		s := strings.Repeat("a-9", n)[:n]
		checkToken(t, s)
		if got := impl.TokOk(s); got != (n >= 1 && n <= 12) {
			t.Fatalf("TokOk of %d bytes is %v", n, got)
		}
	}
}

func TestP9TokensOfAllKinds(t *testing.T) {
	for _, s := range []string{"a", "z", "0", "9", "-", "---", "-a", "a-", "x-y-z", "no-cache", "twelve-bytes"} {
		if !impl.TokOk(s) {
			t.Fatalf("%q is a token", s)
		}
	}
	for _, s := range []string{"", "A", "aB", " a", "a ", "a b", "a_b", "a.b", "a\n", "a\x00", "é", "ａ", "thirteen-byte"} {
		if impl.TokOk(s) {
			t.Fatalf("%q is no token", s)
		}
	}
	for _, s := range append(stringsOf([]string{"a", "Z", "0", "-", " ", ".", "\x00", "\xc3", "\xa9"}, 4), oddStrings()...) {
		checkToken(t, s)
	}
}

func TestP10NumbersReadBack(t *testing.T) {
	for n := range impl.NumMax + 1 {
		s := impl.NumText(n)
		if s != strconv.Itoa(n) {
			t.Fatalf("NumText(%d) is %q", n, s)
		}
		if got, ok := impl.NumRead(s); got != n || !ok {
			t.Fatalf("NumRead(%q) is %d, %v", s, got, ok)
		}
	}
}

func TestP10NumbersOutOfRange(t *testing.T) {
	for _, n := range []int{-1, -9, -999999, math.MinInt, 1000000, 1000001, 9999999, math.MaxInt} {
		if s := impl.NumText(n); s != "" {
			t.Fatalf("NumText(%d) is %q", n, s)
		}
		if got, ok := impl.NumRead(strconv.Itoa(n)); got != 0 || ok {
			t.Fatalf("NumRead of %d is %d, %v", n, got, ok)
		}
	}
}

func notNumbers() []string {
	return []string{
		"", "00", "01", "007", "000000", "0000001", "+1", "-1", "-0", "+0", " 1", "1 ", "1\n", "\t1", "1.0", "1e3", "0x1", "0b1", "0o7",
		"1_0", "1,000", "1-", "a", "1a", "a1", "1000000", "9999990", "18446744073709551616", "18446744073709551617", "4294967297",
		strings.Repeat("0", 500) + "1", strings.Repeat("9", 500), "\x00", "1\x00", "１", "٣", "½", "-", "+",
	}
}

func TestP10NotNumbers(t *testing.T) {
	for _, s := range notNumbers() {
		if n, ok := impl.NumRead(s); n != 0 || ok {
			t.Fatalf("NumRead(%q) is %d, %v", s, n, ok)
		}
	}
}

func TestP10NumberTextsAreUnambiguous(t *testing.T) {
	for _, s := range append(stringsOf([]string{"0", "1", "9", "+", "-", " ", "_", "a", "."}, 5), oddStrings()...) {
		n, ok := impl.NumRead(s)
		digits := s != "" && strings.Trim(s, "0123456789") == ""
		if want := digits && (s == "0" || s[0] != '0'); ok != want {
			t.Fatalf("NumRead(%q) is %v", s, ok)
		}
		if ok && impl.NumText(n) != s || !ok && n != 0 {
			t.Fatalf("NumRead(%q) is %d, %v", s, n, ok)
		}
	}
}

func checkTrim(t *testing.T, s string) {
	t.Helper()
	got := impl.TxtTrim(s)
	if strings.HasPrefix(got, " ") || strings.HasSuffix(got, " ") {
		t.Fatalf("TxtTrim(%q) is %q", s, got)
	}
	if impl.TxtTrim(got) != got {
		t.Fatalf("TxtTrim of %q, twice, is %q", s, impl.TxtTrim(got))
	}
	at := strings.Index(s, got)
	if got == "" {
		at = 0
	}
	if at < 0 || strings.Trim(s[:at]+s[at+len(got):], " ") != "" {
		t.Fatalf("TxtTrim(%q) removes more than spaces: %q", s, got)
	}
}

func TestP11Trim(t *testing.T) {
	for _, c := range [][2]string{
		{"", ""}, {" ", ""}, {"     ", ""}, {"a", "a"}, {" a", "a"}, {"a ", "a"}, {"  a  b   ", "a  b"},
		{"\ta\t", "\ta\t"}, {" \n ", "\n"}, {"a\r\n", "a\r\n"}, {"\x00 ", "\x00"}, {" \xff ", "\xff"},
		{"\u00a0x\u00a0", "\u00a0x\u00a0"}, {"\u2003x ", "\u2003x"}, {" \xa0", "\xa0"}, {"\x85 \v\f", "\x85 \v\f"},
	} {
		if got := impl.TxtTrim(c[0]); got != c[1] {
			t.Fatalf("TxtTrim(%q) is %q", c[0], got)
		}
	}
	for _, s := range append(stringsOf([]string{" ", "a", "\t", "\n", "\xa0", "\x00"}, 5), oddStrings()...) {
		checkTrim(t, s)
	}
}

func TestP11TrimOfEveryByte(t *testing.T) {
	for c := range 256 {
		one := string([]byte{byte(c)})
		want := one
		if c == ' ' {
			want = ""
		}
		if got := impl.TxtTrim("  " + one + " "); got != want {
			t.Fatalf("TxtTrim of the byte %d is %q", c, got)
		}
	}
}

func TestP12LowerOfEveryByte(t *testing.T) {
	for c := range 256 {
		want := byte(c)
		if c >= 'A' && c <= 'Z' {
			want += 32
		}
		for _, around := range []string{"", "a", "Z", "\xc3"} {
			small := strings.Replace(around, "Z", "z", 1)
			s := around + string([]byte{byte(c)}) + around
			if got := impl.TxtLower(s); got != small+string([]byte{want})+small {
				t.Fatalf("TxtLower(%q) is %q", s, got)
			}
		}
	}
}

func TestP12Lower(t *testing.T) {
	for _, c := range [][2]string{
		{"", ""}, {"AZ", "az"}, {"@[`{", "@[`{"}, {"Host", "host"}, {"A-z9", "a-z9"}, {"ÄÖ", "ÄÖ"}, {"\u212a", "\u212a"}, {"\xc9\xff", "\xc9\xff"}, {"\u0130", "\u0130"},
	} {
		if got := impl.TxtLower(c[0]); got != c[1] {
			t.Fatalf("TxtLower(%q) is %q", c[0], got)
		}
	}
	for _, s := range append(stringsOf([]string{"A", "m", "Z", "@", "[", "\xc3", "\x84", "\x00"}, 4), oddStrings()...) {
		got := impl.TxtLower(s)
		if len(got) != len(s) || strings.ContainsAny(got, "ABCDEFGHIJKLMNOPQRSTUVWXYZ") || impl.TxtLower(got) != got {
			t.Fatalf("TxtLower(%q) is %q", s, got)
		}
	}
}

// splitBy states P13 by another means than the program's cuts.
func splitBy(s string, c byte) []string {
	parts := []string{""}
	for i := range len(s) {
		if s[i] == c {
			parts = append(parts, "")
		} else {
			parts[len(parts)-1] += s[i : i+1]
		}
	}
	return parts
}

func checkParts(t *testing.T, s string, c byte) {
	t.Helper()
	parts, want := impl.TxtParts(s, c), splitBy(s, c)
	if len(parts) != len(want) {
		t.Fatalf("TxtParts(%q, %q) is %q", s, c, parts)
	}
	for i, p := range parts {
		if p != want[i] {
			t.Fatalf("TxtParts(%q, %q) is %q", s, c, parts)
		}
	}
	if strings.Join(parts, string([]byte{c})) != s {
		t.Fatalf("TxtParts(%q, %q) does not join: %q", s, c, parts)
	}
	head, rest, found := impl.TxtCut(s, c)
	if head != want[0] || found != (len(want) > 1) {
		t.Fatalf("TxtCut(%q, %q) is %q, %q, %v", s, c, head, rest, found)
	}
	if found && head+string([]byte{c})+rest != s || !found && (head != s || rest != "") {
		t.Fatalf("TxtCut(%q, %q) is %q, %q, %v", s, c, head, rest, found)
	}
}

func TestP13PartsOfEveryByte(t *testing.T) {
	for c := range 256 {
		one := string([]byte{byte(c)})
		other := string([]byte{byte(c + 1)})
		for _, s := range append(stringsOf([]string{one, other}, 4), oddStrings()...) {
			checkParts(t, s, byte(c))
		}
	}
}

func TestP13Parts(t *testing.T) {
	for _, s := range append(stringsOf([]string{",", "a", " ", "\xc3", "\xa9", "\x00"}, 5), oddStrings()...) {
		for _, c := range []byte{',', 'a', ' ', 0xc3, 0xa9, 0, 'q'} {
			checkParts(t, s, c)
		}
	}
}

func TestP13AByteThatIsNotThere(t *testing.T) {
	for _, s := range []string{"", "a", "a;b", "\xc3\xa9", "é"} {
		head, rest, found := impl.TxtCut(s, ',')
		if head != s || rest != "" || found {
			t.Fatalf("TxtCut(%q) is %q, %q, %v", s, head, rest, found)
		}
		if parts := impl.TxtParts(s, ','); len(parts) != 1 || parts[0] != s {
			t.Fatalf("TxtParts(%q) is %q", s, parts)
		}
	}
	// 0xe9 is é as a rune, but not one of its bytes.
	if _, _, found := impl.TxtCut("é", 0xe9); found {
		t.Fatal("a rune is not a byte")
	}
}

func TestP13CutAtTheEnds(t *testing.T) {
	for _, c := range [][3]string{{",", "", ""}, {",a", "", "a"}, {"a,", "a", ""}, {"a,b,c", "a", "b,c"}, {",,", "", ","}} {
		head, rest, found := impl.TxtCut(c[0], ',')
		if head != c[1] || rest != c[2] || !found {
			t.Fatalf("TxtCut(%q) is %q, %q, %v", c[0], head, rest, found)
		}
	}
}

func TestP13PartsAreNew(t *testing.T) {
	first := impl.TxtParts("a,b", ',')
	first[0] = "changed"
	_ = append(first[:1], "changed")
	if again := impl.TxtParts("a,b", ','); again[0] != "a" || again[1] != "b" {
		t.Fatal(again)
	}
}
