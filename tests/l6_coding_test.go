package tests

import (
	"math"
	"math/rand"
	"regexp"
	"slices"
	"strconv"
	"strings"
	"testing"

	"loop.example/godown/impl"
)

var (
	qualityForm = regexp.MustCompile(`^(0(\.[0-9]{0,3})?|1(\.0{0,3})?)$`)
	wantForm    = regexp.MustCompile(`^ *((?i:plain|gz|br)|\*) *(?:; *q=(0(?:\.[0-9]{0,3})?|1(?:\.0{0,3})?) *)?$`)
)

func TestConstantsOfCodings(t *testing.T) {
	got := []int{impl.CodPlain, impl.CodGz, impl.CodBr, impl.CodMany, impl.CodWants}
	if !slices.Equal(got, []int{0, 1, 2, 8, 5}) {
		t.Fatal(got)
	}
}

// wantQ states CodQ by another means than the program's.
func wantQ(s string) (int, bool) {
	if !qualityForm.MatchString(s) {
		return 0, false
	}
	f, _ := strconv.ParseFloat(s, 64)
	return int(math.Round(f * 1000)), true
}

// wantParse states CodParse by another means than the program's.
func wantParse(s string) ([]impl.CodWant, bool) {
	var list []impl.CodWant
	for _, part := range strings.Split(s, ",") {
		m := wantForm.FindStringSubmatch(part)
		if m == nil || len(list) == 5 {
			return nil, false
		}
		code := map[string]int{"plain": 0, "gz": 1, "br": 2, "*": -1}[strings.ToLower(m[1])]
		q, told := wantQ(m[2])
		if !told {
			q = 1000
		}
		list = append(list, impl.CodWant{Code: code, Q: q})
	}
	return list, true
}

// wantMask states CodMask by another means than the program's: all codings are written down anew for every entry, from the last one on.
func wantMask(list []impl.CodWant) int {
	q := map[int]int{}
	for _, want := range slices.Backward(list) {
		if _, told := q[want.Code]; !told {
			q[want.Code] = want.Q
		}
	}
	mask := 0
	for code, byDefault := range []int{1000, 0, 0} {
		rest, star := q[-1]
		own, told := q[code]
		if !told && star {
			own = rest
		} else if !told {
			own = byDefault
		}
		if own > 0 {
			mask += []int{1, 2, 4}[code]
		}
	}
	return mask
}

func checkQ(t *testing.T, s string) bool {
	t.Helper()
	q, ok := impl.CodQ(s)
	want, wantOk := wantQ(s)
	if q != want || ok != wantOk || q < 0 || q > 1000 {
		t.Fatalf("CodQ(%q) is %d, %v and not %d, %v", s, q, ok, want, wantOk)
	}
	return ok
}

// checkWants holds an accept field against the regular expression, by itself and in a request.
func checkWants(t *testing.T, s string) bool {
	t.Helper()
	list, ok := impl.CodParse(s)
	want, wantOk := wantParse(s)
	if !slices.Equal(list, want) || ok != wantOk || !ok && list != nil {
		t.Fatalf("CodParse(%q) is %v, %v and not %v, %v", s, list, ok, want, wantOk)
	}
	mask := 1
	if ok {
		mask = checkMask(t, list)
	}
	if got := impl.CodOf([]impl.FldField{{Name: "accept", Value: s}}); got != mask {
		t.Fatalf("CodOf an accept field %q is %d and not %d", s, got, mask)
	}
	return ok
}

func checkMask(t *testing.T, list []impl.CodWant) int {
	t.Helper()
	before := slices.Clone(list)
	mask := impl.CodMask(list)
	if mask != wantMask(list) || mask < 0 || mask >= 8 {
		t.Fatalf("CodMask(%v) is %d and not %d", list, mask, wantMask(list))
	}
	if !slices.Equal(list, before) {
		t.Fatalf("%v has become %v", before, list)
	}
	return mask
}

// someWants returns entries for all codings, for a star, and for numbers that are no coding, wanted and not.
func someWants() []impl.CodWant {
	var wants []impl.CodWant
	for _, code := range []int{-1, 0, 1, 2, 3} {
		wants = append(wants, impl.CodWant{Code: code, Q: 0}, impl.CodWant{Code: code, Q: 1})
	}
	return wants
}

func TestP29Qualities(t *testing.T) {
	for s, want := range map[string]int{
		"0": 0, "0.": 0, "0.0": 0, "0.00": 0, "0.000": 0, "1": 1000, "1.": 1000, "1.0": 1000, "1.00": 1000, "1.000": 1000,
		"0.5": 500, "0.05": 50, "0.005": 5, "0.50": 500, "0.500": 500, "0.9": 900, "0.99": 990, "0.999": 999, "0.001": 1, "0.010": 10, "0.123": 123, "0.321": 321,
	} {
		if got, ok := impl.CodQ(s); got != want || !ok {
			t.Fatalf("CodQ(%q) is %d, %v", s, got, ok)
		}
		checkQ(t, s)
	}
}

func TestP29NoQualities(t *testing.T) {
	for _, s := range append(oddStrings(),
		".", "..", ".5", ".0", "00", "01", "10", "11", "2", "9", "2.0", "0..", "0..5", "0.5.", "0.5.5", "0.0.", "1.1", "1.01", "1.001", "1.999", "1.9", "1.0000", "0.0000", "0.1234", "0.5000", "1.00000",
		"-0", "+0", "+1", "-1", "0.-", "0.-5", "0.+5", "0.5-", "1-", "1+", "0 .5", "0. 5", "0.5 ", " 0.5", " 1", "1 ", "0,5", "1e0", "0.1e1", "0x1", "0.a", "0.5a", "a", "1_0", "0._5", "0.5_", "q=1", "0;5", "0.\x00", "0.５", "１", "٠", "0.٥",
		"00.5", "01.0", "0.5\n", "\n1", "1\x00", strings.Repeat("0", 1000), "0."+strings.Repeat("0", 1000), "1."+strings.Repeat("0", 1000), strings.Repeat("9", 400), "18446744073709551616", "18446744073709551617",
	) {
		if got, ok := impl.CodQ(s); got != 0 || ok {
			t.Fatalf("CodQ(%q) is %d, %v", s, got, ok)
		}
		checkQ(t, s)
	}
}

func TestP29EveryThousandth(t *testing.T) {
	for n := range 1001 {
		s := strconv.FormatFloat(float64(n)/1000, 'f', 3, 64)
		if got, ok := impl.CodQ(s); got != n || !ok {
			t.Fatalf("CodQ(%q) is %d, %v", s, got, ok)
		}
	}
	for n := 1001; n < 10000; n++ {
		s := strconv.FormatFloat(float64(n)/1000, 'f', 3, 64)
		if got, ok := impl.CodQ(s); got != 0 || ok {
			t.Fatalf("CodQ(%q) is %d, %v", s, got, ok)
		}
	}
}

func TestP29OneMoreZero(t *testing.T) {
	good := 0
	for _, s := range append(stringsOf([]string{"0", "1", ".", "5", "9"}, 5), oddStrings()...) {
		q, ok := impl.CodQ(s)
		if !ok || !strings.Contains(s, ".") {
			continue
		}
		longer, still := impl.CodQ(s + "0")
		if len(s) < len("0.000") && (longer != q || !still) || len(s) == len("0.000") && still {
			t.Fatalf("CodQ(%q) is %d, with one more zero %d, %v", s, q, longer, still)
		}
		good++
	}
	if good < 80 {
		t.Fatalf("%d qualities prove little", good)
	}
}

func TestP29AllShortQualities(t *testing.T) {
	good := 0
	for _, s := range stringsOf([]string{"0", "1", "2", "9", ".", " ", "-", "+", "a"}, 6) {
		if checkQ(t, s) {
			good++
		}
	}
	// Without a point 2, with one 1 and 4, 16 and 64 with digits for 0, and the zeros for 1.
	if good != 2+1+4+16+64+4 {
		t.Fatalf("%d qualities", good)
	}
}

func TestP29EveryByteOfAQuality(t *testing.T) {
	for b := range 256 {
		one := string([]byte{byte(b)})
		for _, s := range []string{"", "0", "1", "0.", "1.", "0.5", "0.55", "0.555", "1.0", "1.00", "1.000"} {
			for at := range len(s) + 1 {
				checkQ(t, s[:at]+one+s[at:])
				checkQ(t, s[:at]+one+s[min(at+1, len(s)):])
			}
		}
	}
}

// setTexts holds the text of every set.
var setTexts = [8]string{"plain;q=0", "plain", "plain;q=0, gz", "plain, gz", "plain;q=0, br", "plain, br", "plain;q=0, gz, br", "plain, gz, br"}

func TestP26SetsReadBack(t *testing.T) {
	for mask := range 8 {
		text := impl.CodText(mask)
		if text != setTexts[mask] {
			t.Fatalf("CodText(%d) is %q", mask, text)
		}
		list, ok := impl.CodParse(text)
		if got := impl.CodMask(list); got != mask || !ok {
			t.Fatalf("CodParse(%q) is %v, %v, of which the set is %d", text, list, ok, got)
		}
		f := impl.FldField{Name: "accept", Value: text}
		if !impl.FldOk(f) || impl.CodOf([]impl.FldField{f}) != mask {
			t.Fatalf("of %q CodOf is %d", f, impl.CodOf([]impl.FldField{f}))
		}
	}
}

// notSets returns numbers below and above those of the sets.
func notSets() []int {
	return []int{-1, -2, -3, -4, -7, -8, -9, 8, 9, 10, 12, 15, 16, 255, 256, 263, 1 << 31, 1<<32 + 1, 1<<62 + 7, -1 << 32, math.MinInt, math.MinInt + 7, math.MaxInt}
}

func TestP26NumbersThatAreNoSet(t *testing.T) {
	for _, mask := range notSets() {
		if got := impl.CodText(mask); got != "" {
			t.Fatalf("CodText(%d) is %q", mask, got)
		}
	}
	for mask := -1000; mask < 1000; mask++ {
		if got := impl.CodText(mask); (got != "") != (mask >= 0 && mask < 8) {
			t.Fatalf("CodText(%d) is %q", mask, got)
		}
	}
}

func TestP26Wants(t *testing.T) {
	type list = []impl.CodWant
	for s, want := range map[string]list{
		"plain": {{Code: 0, Q: 1000}}, "gz": {{Code: 1, Q: 1000}}, "br": {{Code: 2, Q: 1000}}, "*": {{Code: -1, Q: 1000}},
		"PLAIN": {{Code: 0, Q: 1000}}, "GZ": {{Code: 1, Q: 1000}}, "Br": {{Code: 2, Q: 1000}}, "bR": {{Code: 2, Q: 1000}}, "pLaIn": {{Code: 0, Q: 1000}},
		" gz": {{Code: 1, Q: 1000}}, "gz ": {{Code: 1, Q: 1000}}, "   *   ": {{Code: -1, Q: 1000}},
		"gz;q=0": {{Code: 1, Q: 0}}, "gz;q=1": {{Code: 1, Q: 1000}}, "gz;q=0.": {{Code: 1, Q: 0}}, "gz;q=1.": {{Code: 1, Q: 1000}}, "gz;q=0.5": {{Code: 1, Q: 500}}, "BR;q=0.05": {{Code: 2, Q: 50}}, "*;q=0.005": {{Code: -1, Q: 5}}, "plain;q=1.000": {{Code: 0, Q: 1000}},
		"gz ;q=0.5": {{Code: 1, Q: 500}}, "gz; q=0.5": {{Code: 1, Q: 500}}, "gz;q=0.5 ": {{Code: 1, Q: 500}}, "  *  ;  q=0  ": {{Code: -1, Q: 0}}, " GZ ; q=0.25 ": {{Code: 1, Q: 250}},
		"gz;q=0.5, *;q=0": {{Code: 1, Q: 500}, {Code: -1, Q: 0}},
		"plain,gz,br,*":   {{Code: 0, Q: 1000}, {Code: 1, Q: 1000}, {Code: 2, Q: 1000}, {Code: -1, Q: 1000}},
		"br,br;q=0 , BR":  {{Code: 2, Q: 1000}, {Code: 2, Q: 0}, {Code: 2, Q: 1000}},
		"*,*;q=0,*,*,*":   {{Code: -1, Q: 1000}, {Code: -1, Q: 0}, {Code: -1, Q: 1000}, {Code: -1, Q: 1000}, {Code: -1, Q: 1000}},
	} {
		got, ok := impl.CodParse(s)
		if !slices.Equal(got, want) || !ok {
			t.Fatalf("CodParse(%q) is %v, %v", s, got, ok)
		}
		checkWants(t, s)
	}
}

// badParts returns parts of an accept field that are malformed for one reason each.
func badParts() []string {
	return append(oddStrings(),
		"zip", "gzip", "g", "z", "gzz", "ggz", "g z", "gz gz", "gz*", "*gz", "**", "* *", "plain.", "identity", "deflate", "plai", "plainn", "b", "r", "b r", "0", "1", "-1", "q=1", "q=", "\u212az", "ｇｚ", "gz\x00", "\x00gz", "gz\n", "\tgz", "gz\t", "gz\u00a0", "br\r",
		";", ";;", ";q=1", " ;q=1", "  ; q=0.5", ";gz", "gz;", "gz; ", "gz ;", "gz;;", "gz;;q=1", "gz; ;q=1", "gz;q=1;", "gz;q=1;q=1", "gz;q=0.5;x=1", "gz;x=1;q=0.5", "gz;level=1", "gz;q", "gz;q=", "gz; q= ", "gz;=1", "gz;1", "gz;0.5", "gz=1", "gz:q=1",
		"gz;Q=1", "gz;Q=0.5", "gz;qq=1", "gz;q==1", "gz;q:1", "gz;q =1", "gz;q= 1", "gz;q = 1", "gz;q=1 0", "gz;q=0 .5", "gz;q=0. 5", "gz;q=\"1\"", "gz;\tq=1", "gz;q=1\t", "gz\t;q=1", "gz;q=1\n", "gz;q=1\x00",
		"gz;q=2", "gz;q=1.001", "gz;q=1.1", "gz;q=0.1234", "gz;q=1.0000", "gz;q=.5", "gz;q=00", "gz;q=01", "gz;q=-0", "gz;q=-1", "gz;q=+1", "gz;q=0,5", "gz;q=1e0", "gz;q=x", "*;q=", "*;", "*;q=1.5", "plain;q=10", "BR;Q=1",
	)
}

func TestP26MalformedWants(t *testing.T) {
	for _, part := range badParts() {
		for _, s := range []string{part, part + ",gz", "gz," + part, "gz, " + part + " ,*;q=0", "gz,br,*," + part, part + "," + part} {
			if list, ok := impl.CodParse(s); list != nil || ok {
				t.Fatalf("CodParse(%q) is %v, %v", s, list, ok)
			}
			checkWants(t, s)
		}
	}
}

func TestP26EmptyParts(t *testing.T) {
	for _, s := range []string{"", " ", "    ", ",", " ,", ", ", " , ", ",,", ",,,,", ",,,,,", ",gz", "gz,", "gz, ", " ,gz", "gz,,br", "gz, ,br", ",gz,", "gz;q=1,", ",*"} {
		if list, ok := impl.CodParse(s); list != nil || ok {
			t.Fatalf("CodParse(%q) is %v, %v", s, list, ok)
		}
		checkWants(t, s)
	}
}

func TestP26NumbersOfParts(t *testing.T) {
	for _, part := range []string{"gz", "*", " Br ", "plain;q=0", " * ; q=0.5 "} {
		for n := 1; n < 20; n++ {
			s := strings.TrimSuffix(strings.Repeat(part+",", n), ",")
			list, ok := impl.CodParse(s)
			if ok != (n <= 5) || ok && len(list) != n || !ok && list != nil {
				t.Fatalf("CodParse(%q) is %v, %v", s, list, ok)
			}
			checkWants(t, s)
		}
		s := strings.Repeat(part+",", 1<<16) + part
		if list, ok := impl.CodParse(s); list != nil || ok {
			t.Fatalf("CodParse of %d parts is %v, %v", 1<<16, list, ok)
		}
	}
	for _, s := range []string{"gz,gz,gz,gz,zip", "gz,gz,gz,gz,gz,zip", "zip,gz,gz,gz,gz,gz", "gz,gz,gz,gz,gz,", ",gz,gz,gz,gz,gz", "gz,gz,gz,gz,"} {
		if checkWants(t, s) {
			t.Fatalf("CodParse(%q) is true", s)
		}
	}
}

func TestP26ManySpaces(t *testing.T) {
	for _, n := range []int{0, 1, 2, 29, 30, 31, 1000} {
		gap := strings.Repeat(" ", n)
		s := gap + "GZ" + gap + ";" + gap + "q=0.5" + gap + "," + gap + "*" + gap
		if list, ok := impl.CodParse(s); !slices.Equal(list, []impl.CodWant{{Code: 1, Q: 500}, {Code: -1, Q: 1000}}) || !ok {
			t.Fatalf("CodParse(%q) is %v, %v", s, list, ok)
		}
	}
}

func TestP26EveryByteOfAnAcceptField(t *testing.T) {
	for b := range 256 {
		one := string([]byte{byte(b)})
		for _, s := range []string{"", "gz", "*", "BR;q=0.5", " plain ; q=1 ", "gz;q=0.5, *;q=0"} {
			for at := range len(s) + 1 {
				checkWants(t, s[:at]+one+s[at:])
				checkWants(t, s[:at]+one+s[min(at+1, len(s)):])
			}
		}
	}
}

func TestP26AllShortAcceptFields(t *testing.T) {
	good := 0
	for _, s := range append(stringsOf([]string{"Gz", "*", ",", ";", "q=0", "5", ".", " "}, 6), oddStrings()...) {
		if checkWants(t, s) {
			good++
		}
	}
	if good < 400 {
		t.Fatalf("%d accept fields prove little", good)
	}
}

func TestP26AcceptFieldsByChance(t *testing.T) {
	r := rand.New(rand.NewSource(26))
	words := []string{"gz", "GZ", "br", "Br", "plain", "*", ";q=0", ";q=0.5", "; q=1", " ;q=0.000", ",", ",", ", ", " ,", " ", "zip"}
	good := 0
	for range 100000 {
		var s strings.Builder
		for range 1 + r.Intn(9) {
			s.WriteString(words[r.Intn(len(words))])
		}
		if checkWants(t, s.String()) {
			good++
		}
	}
	if good < 5000 {
		t.Fatalf("%d accept fields prove little", good)
	}
}

func TestP26ResultsAreNew(t *testing.T) {
	s := "gz;q=0.5, *;q=0"
	one, _ := impl.CodParse(s)
	for at := range one[:cap(one)] {
		one[:cap(one)][at] = impl.CodWant{Code: 2, Q: 7}
	}
	if two, ok := impl.CodParse(s); !slices.Equal(two, []impl.CodWant{{Code: 1, Q: 500}, {Code: -1, Q: 0}}) || !ok {
		t.Fatalf("CodParse(%q) is %v, %v", s, two, ok)
	}
}

func TestP27TheLastEntryCounts(t *testing.T) {
	for _, list := range listsOf(someWants(), 4) {
		before := checkMask(t, list)
		for code := range 3 {
			bit := []int{1, 2, 4}[code]
			for _, q := range []int{1, 500, 1000} {
				if got := impl.CodMask(append(slices.Clone(list), impl.CodWant{Code: code, Q: q})); got != before|bit {
					t.Fatalf("CodMask(%v) is %d, with coding %d by %d it is %d", list, before, code, q, got)
				}
			}
			if got := impl.CodMask(append(slices.Clone(list), impl.CodWant{Code: code})); got != before&^bit {
				t.Fatalf("CodMask(%v) is %d, without coding %d it is %d", list, before, code, got)
			}
		}
	}
}

func TestP27TheLastStarCounts(t *testing.T) {
	for s, want := range map[string]int{
		"*,*;q=0": 0, "*;q=0,*": 7, "*;q=0,*,*;q=0": 0, "gz,*;q=0": 2, "*;q=0,gz": 2, "gz;q=0,*": 5, "*,gz;q=0": 5, "*;q=0,gz,*": 7, "*,gz;q=0,*;q=0": 0,
		"gz;q=0,gz": 3, "gz,gz;q=0": 1, "gz,*;q=0,gz;q=0": 0, "gz;q=0,*;q=0,gz": 2, "gz;q=0,gz,*;q=0": 2, "gz,gz;q=0,*": 5, "gz,*,gz;q=0": 5, "plain;q=0,*": 6, "*,plain;q=0": 6, "plain;q=0,plain": 1, "plain,plain;q=0": 0, "br,*;q=0,plain": 5,
		"gz;q=0.001": 3, "gz;q=0.000": 1, "*;q=0.001": 7, "*;q=0.000,plain;q=0.001": 1,
	} {
		list, ok := impl.CodParse(s)
		if got := impl.CodMask(list); got != want || !ok {
			t.Fatalf("CodMask of CodParse(%q) is %d, %v", s, got, ok)
		}
	}
}

func TestP27OtherNumbersAreIgnored(t *testing.T) {
	others := []int{-2, -3, -8, 3, 4, 5, 7, 8, 31, 32, 63, 64, 65, 128, -63, -64, -65, 1<<32 - 1, 1 << 32, 1<<32 + 1, math.MinInt, math.MaxInt}
	for _, list := range listsOf(someWants()[:8], 2) {
		before := checkMask(t, list)
		for _, code := range others {
			for _, q := range []int{-1, 0, 1, 1000} {
				other := impl.CodWant{Code: code, Q: q}
				for at := range len(list) + 1 {
					if got := checkMask(t, slices.Insert(slices.Clone(list), at, other)); got != before {
						t.Fatalf("CodMask(%v) is %d, with %v it is %d", list, before, other, got)
					}
				}
			}
		}
	}
}

func TestP27AnyQuality(t *testing.T) {
	for _, q := range []int{math.MinInt, -1 << 32, -1000, -1, 0, 1, 2, 999, 1000, 1001, 2000, 1 << 32, math.MaxInt} {
		for code, bit := range []int{1, 2, 4} {
			want := 1 | bit
			if q <= 0 {
				want = 1 &^ bit
			}
			if got := checkMask(t, []impl.CodWant{{Code: code, Q: q}}); got != want {
				t.Fatalf("CodMask of coding %d by %d is %d", code, q, got)
			}
		}
		if got := checkMask(t, []impl.CodWant{{Code: -1, Q: q}}); got != 0 && got != 7 || (got == 7) != (q > 0) {
			t.Fatalf("CodMask of a star by %d is %d", q, got)
		}
	}
}

func TestP27LongLists(t *testing.T) {
	r := rand.New(rand.NewSource(27))
	for range 2000 {
		var list []impl.CodWant
		for range r.Intn(40) {
			list = append(list, impl.CodWant{Code: r.Intn(6) - 2, Q: r.Intn(3) - 1})
		}
		checkMask(t, list)
	}
	many := slices.Repeat([]impl.CodWant{{Code: 0}, {Code: 1, Q: 1}, {Code: -1, Q: 5}}, 50000)
	if got := impl.CodMask(many); got != 6 {
		t.Fatalf("CodMask of %d entries is %d", len(many), got)
	}
}

func TestP28ASetHasWhatItsNumberSays(t *testing.T) {
	for mask := range 8 {
		sum := 0
		for code, weight := range []int{1, 2, 4} {
			if impl.CodIn(mask, code) {
				sum += weight
			}
		}
		if sum != mask {
			t.Fatalf("the codings in %d add up to %d", mask, sum)
		}
	}
	if !impl.CodIn(1, impl.CodPlain) || !impl.CodIn(2, impl.CodGz) || !impl.CodIn(4, impl.CodBr) {
		t.Fatal("every coding has its own bit")
	}
}

func TestP28NoCodings(t *testing.T) {
	for mask := range 8 {
		for _, code := range []int{-1, -2, -3, 3, 4, 5, 7, 8, 31, 32, 61, 62, 63, 64, 65, 128, -61, -62, -63, -64, -65, 1 << 32, 1<<32 + 1, -1 << 32, math.MinInt, math.MaxInt} {
			if impl.CodIn(mask, code) {
				t.Fatalf("CodIn(%d, %d) is true", mask, code)
			}
		}
	}
}

func TestP28NoSets(t *testing.T) {
	for _, mask := range notSets() {
		for code := -70; code <= 70; code++ {
			if impl.CodIn(mask, code) {
				t.Fatalf("CodIn(%d, %d) is true", mask, code)
			}
		}
	}
	for mask := -300; mask < 300; mask++ {
		for code := -1; code <= 10; code++ {
			want := mask >= 0 && mask < 8 && code >= 0 && code <= 2 && strconv.FormatInt(int64(mask+8), 2)[3-max(0, min(2, code))] == '1'
			if got := impl.CodIn(mask, code); got != want {
				t.Fatalf("CodIn(%d, %d) is %v", mask, code, got)
			}
		}
	}
}

func checkOf(t *testing.T, want int, list ...impl.FldField) {
	t.Helper()
	before := slices.Clone(list)
	if got := impl.CodOf(list); got != want {
		t.Fatalf("CodOf(%q) is %d and not %d", list, got, want)
	}
	if !slices.Equal(list, before) {
		t.Fatalf("%q has become %q", before, list)
	}
}

func accept(value string) impl.FldField {
	return impl.FldField{Name: "accept", Value: value}
}

func TestP30NoAcceptField(t *testing.T) {
	checkOf(t, 1)
	for _, name := range append(oddStrings(), "Accept", "ACCEPT", "accept ", " accept", "accep", "accepts", "accept-", "accept:", "if-none", "a") {
		checkOf(t, 1, impl.FldField{Name: name, Value: "*"})
		checkOf(t, 1, impl.FldField{Name: name, Value: "gz, br, plain;q=0"}, impl.FldField{Name: name, Value: "gz"})
	}
	if impl.CodMask(nil) != 1 || impl.CodMask([]impl.CodWant{}) != 1 {
		t.Fatal("nothing is told")
	}
}

func TestP30OneAcceptField(t *testing.T) {
	for s, want := range map[string]int{
		"plain": 1, "gz": 3, "br": 5, "gz,br": 7, "*": 7, "*;q=0": 0, "plain;q=0": 0, "plain;q=0,gz": 2, "gz;q=0.5, *;q=0": 2, "BR , *;q=0": 4, "gz;q=0": 1, "*,gz;q=0": 5,
	} {
		checkOf(t, want, accept(s))
		checkOf(t, want, impl.FldField{Name: "a", Value: "1"}, accept(s), impl.FldField{Name: "Accept", Value: "*"}, impl.FldField{Name: "accept2", Value: "zip"})
	}
}

func TestP30TwoAcceptFields(t *testing.T) {
	for _, value := range []string{"*", "gz", "plain;q=0", "", "zip", "*;q=0"} {
		for _, other := range []string{"*", "gz", "plain;q=0", "", "zip", "*;q=0"} {
			checkOf(t, 1, accept(value), accept(other))
			checkOf(t, 1, accept(value), impl.FldField{Name: "a", Value: "gz"}, accept(other))
			checkOf(t, 1, accept(value), accept(other), accept(value))
		}
	}
}

func TestP30MalformedAcceptFields(t *testing.T) {
	for _, part := range badParts() {
		checkOf(t, 1, accept(part))
		checkOf(t, 1, accept("gz, "+part))
		checkOf(t, 1, accept("*;q=0, "+part), impl.FldField{Name: "a", Value: "gz"})
	}
	for _, value := range []string{"gz,br,gz,br,gz,br", "*;q=0,*;q=0,*;q=0,*;q=0,*;q=0,*;q=0", "gz,", ",gz", "plain;q=0,", "", " "} {
		checkOf(t, 1, accept(value))
	}
}

func TestP30OtherFieldsMakeNoDifference(t *testing.T) {
	others := append(append(goodFields(), badFields()...), impl.FldField{}, impl.FldField{Name: "Accept", Value: "*"}, impl.FldField{Name: "accept\x00", Value: "gz"})
	for _, list := range [][]impl.FldField{nil, {accept("gz")}, {accept("*;q=0")}, {accept("zip")}, {accept("gz"), accept("gz")}, {{Name: "a", Value: "*"}, accept("br, plain;q=0")}} {
		want := impl.CodOf(list)
		for _, other := range others {
			for at := range len(list) + 1 {
				checkOf(t, want, slices.Insert(slices.Clone(list), at, other)...)
			}
		}
		checkOf(t, want, append(slices.Clone(others), list...)...)
		checkOf(t, want, append(slices.Clone(list), others...)...)
	}
}

func TestP69AnAsteriskAlone(t *testing.T) {
	for _, q := range []int{0, 1, 2, 500, 999, 1000} {
		want := 7
		if q == 0 {
			want = 0
		}
		if got := impl.CodMask([]impl.CodWant{{Code: -1, Q: q}}); got != want {
			t.Fatalf("CodMask of a star by %d is %d", q, got)
		}
		for _, s := range []string{"*;q=", " * ; q="} {
			s += strconv.FormatFloat(float64(q)/1000, 'f', 3, 64)
			checkOf(t, want, accept(s))
		}
	}
	checkOf(t, 7, accept("*"))
}

// TestP69AnAsteriskForTheRest puts a star ahead of, between and behind the entries of a list without one.
func TestP69AnAsteriskForTheRest(t *testing.T) {
	for _, list := range listsOf(someWants()[2:8], 4) {
		told := map[int]bool{}
		for _, want := range list {
			told[want.Code] = true
		}
		without := impl.CodMask(list)
		for _, q := range []int{0, 1, 1000} {
			for at := range len(list) + 1 {
				got := checkMask(t, slices.Insert(slices.Clone(list), at, impl.CodWant{Code: -1, Q: q}))
				for code := range 3 {
					want := q > 0
					if told[code] {
						want = impl.CodIn(without, code)
					}
					if impl.CodIn(got, code) != want {
						t.Fatalf("with a star by %d at %d in %v the set is %d", q, at, list, got)
					}
				}
			}
		}
	}
}

// asked is what a request asks for, apart from its form.
type asked struct {
	verb, target, host, body string
	mask                     int
}

// fieldsByMask returns, for every set, lines of accept fields that ask for it: one line, none, two, or a malformed one.
func fieldsByMask() [8][][]string {
	var all [8][][]string
	for mask := range 8 {
		all[mask] = append(all[mask], []string{impl.CodText(mask)})
	}
	for _, s := range stringsOf([]string{"gz,", " BR ,", "Plain;q=0,", "*;q=0 ,", "* ,", "gz; q=0.,", "br;q=1.0,"}, 4) {
		s = strings.TrimSuffix(s, ",")
		if list, ok := wantParse(s); ok && len(s) <= 30 {
			all[wantMask(list)] = append(all[wantMask(list)], []string{s})
		}
	}
	all[1] = append(all[1], nil, []string{"gz", "gz"}, []string{"*", "*;q=0"}, []string{"zip"}, []string{"gz,"}, []string{""}, []string{"plain;q=0;"}, []string{"gz", "zip", "*"})
	return all
}

// randomCase writes some letters in upper case.
func randomCase(r *rand.Rand, s string) string {
	forms := append(upperSome(s), s)
	return forms[r.Intn(len(forms))]
}

// targetForm writes a canonical target with some of its bytes as escapes, and its escapes in either case.
func targetForm(r *rand.Rand, target string) string {
	var s strings.Builder
	left := 40 - len(target)
	for at := 0; at < len(target); at++ {
		c := target[at]
		if c == '%' {
			s.WriteString("%" + randomCase(r, strings.ToLower(target[at+1:at+3])))
			at += 2
		} else if left >= 2 && r.Intn(3) == 0 && !strings.ContainsRune("./?%&=", rune(c)) {
			s.WriteString("%" + randomCase(r, strconv.FormatInt(int64(c), 16)))
			left -= 2
		} else {
			s.WriteByte(c)
		}
	}
	return s.String()
}

func hostFormOf(r *rand.Rand, host string) string {
	return randomCase(r, host) + []string{"", ":80"}[r.Intn(2)]
}

// formOf writes what is asked in some form, with other fields besides.
func formOf(r *rand.Rand, a asked, accepts []string) string {
	target := targetForm(r, a.target)
	if r.Intn(2) == 0 {
		target = "http://" + hostFormOf(r, a.host) + target
	}
	line := func(name, value string) string {
		gap := []string{"", " ", "  "}
		return randomCase(r, name) + ":" + gap[r.Intn(3)] + value + gap[r.Intn(3)] + "\n"
	}
	lines := []string{line("host", hostFormOf(r, a.host))}
	if a.body != "" || r.Intn(4) == 0 {
		lines = append(lines, line("length", strconv.Itoa(len(a.body))))
	}
	for _, value := range accepts {
		lines = append(lines, line("accept", value))
	}
	for range r.Intn(3) {
		lines = append(lines, line([]string{"cookie", "a", "accept-", "if-none"}[r.Intn(4)], []string{"", "z", "*", "gz;q=0"}[r.Intn(4)]))
	}
	// Accept fields stay in order; if there are two, either order says the same.
	r.Shuffle(len(lines), func(i, j int) { lines[i], lines[j] = lines[j], lines[i] })
	return a.verb + " " + target + "\n" + strings.Join(lines, "") + "\n" + a.body
}

func checkAsked(t *testing.T, s string, a asked) {
	t.Helper()
	h, used, what := impl.HedRead(s)
	if what != impl.HedDone || used != len(s) {
		t.Fatalf("HedRead(%q) is %q, %d, %d", s, h, used, what)
	}
	if got := (asked{h.Verb, h.Target, h.Host, h.Body, impl.CodOf(h.Fields)}); got != a {
		t.Fatalf("%q asks for %v and not %v", s, got, a)
	}
}

func TestP68TwoForms(t *testing.T) {
	for _, pair := range [][2]string{
		{"get /a\nhost: one.x\n\n", "get http://ONE.x:80/%61\nHost:One.X\nAccept: Plain;q=0.5\n\n"},
		{"get /a%2C?b=~\nhost: one.x\naccept: plain;q=0, gz\n\n", "get /%61%2c?%62=%7e\ncookie: z\nACCEPT:  GZ ;  q=0.1 , * ; q=0  \nhost: one.x:80\n\n"},
		{"get /\nhost: a\naccept: plain, gz, br\n\n", "get http://a:80/\nAccept:*\nhost: A\n\n"},
		{"get /\nhost: a\naccept: zip\n\n", "get /\nhost: a\naccept: gz\naccept: gz\n\n"},
		{"put /a\nhost: a\nlength: 3\n\nnew", "put /%61\nLength:3\nx: y\nHost: A:80\naccept: plain\n\nnew"},
		{"purge /a\nhost: a\naccept: plain;q=0\n\n", "purge http://A/%61\nhost: a\naccept: *;q=0.000\nlength: 0\n\n"},
	} {
		one, _, what := impl.HedRead(pair[0])
		if what != impl.HedDone {
			t.Fatalf("HedRead(%q) is %d", pair[0], what)
		}
		a := asked{one.Verb, one.Target, one.Host, one.Body, impl.CodOf(one.Fields)}
		checkAsked(t, pair[0], a)
		checkAsked(t, pair[1], a)
		checkAsked(t, impl.HedWrite(one), a)
	}
}

func TestP68FormsByChance(t *testing.T) {
	r := rand.New(rand.NewSource(68))
	accepts := fieldsByMask()
	for mask, forms := range accepts {
		if len(forms) < 10 {
			t.Fatalf("%d forms of the set %d prove little", len(forms), mask)
		}
	}
	pick := func(all ...string) string { return all[r.Intn(len(all))] }
	for range 50000 {
		a := asked{verb: pick("get", "put", "purge"), target: pick("/", "/a", "/a/b-c", "/a%2Cb?q=%7C&~", "/x.y/?", "/%C3%A4"), host: pick("a", "one.x", "twelve-bytes.x"), mask: r.Intn(8)}
		if a.verb == "put" {
			a.body = pick("", "new", "accept: gz")
		}
		forms := accepts[a.mask]
		for range 2 {
			checkAsked(t, formOf(r, a, forms[r.Intn(len(forms))]), a)
		}
	}
}

func TestP68OtherRequestsDiffer(t *testing.T) {
	one := asked{"get", "/a", "one.x", "", 3}
	checkAsked(t, "get /a\nhost: one.x\naccept: gz\n\n", one)
	for s, want := range map[string]asked{
		"get /A\nhost: one.x\naccept: gz\n\n":         {"get", "/A", "one.x", "", 3},
		"get /a?\nhost: one.x\naccept: gz\n\n":        {"get", "/a?", "one.x", "", 3},
		"get /a\nhost: one.x\naccepts: gz\n\n":        {"get", "/a", "one.x", "", 1},
		"get /a\nhost: one.x\naccept: gz;q=0\n\n":     {"get", "/a", "one.x", "", 1},
		"get /a\nhost: one.x\naccept: gz,*\n\n":       {"get", "/a", "one.x", "", 7},
		"purge /a\nhost: one.x\naccept: gz\n\n":       {"purge", "/a", "one.x", "", 3},
		"put /a\nhost: one.x\naccept: gz\n\n":         {"put", "/a", "one.x", "", 3},
		"get /a\nhost: one.x\naccept: gz;Q=1\n\n":     {"get", "/a", "one.x", "", 1},
		"get /a\nhost: one.x\naccept: gz;q=1.001\n\n": {"get", "/a", "one.x", "", 1},
	} {
		checkAsked(t, s, want)
	}
}
