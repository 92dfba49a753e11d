package tests

import (
	"reflect"
	"regexp"
	"strings"
	"testing"

	"loop.example/godown/impl"
)

var (
	fieldName  = regexp.MustCompile(`^[a-z0-9-]{1,12}$`)
	fieldValue = regexp.MustCompile(`^([!-~]([ -~]{0,28}[!-~])?)?$`)
	fieldLine  = regexp.MustCompile(`^([A-Za-z0-9-]{1,12}): *(([!-~]([ -~]{0,28}[!-~])?)?) *$`)
)

func TestConstantsOfFields(t *testing.T) {
	if impl.FldMax != 30 {
		t.Fatal(impl.FldMax)
	}
}

// wantField states FldOk by another means than the program's.
func wantField(f impl.FldField) bool {
	return fieldName.MatchString(f.Name) && fieldValue.MatchString(f.Value)
}

// wantRead states FldRead by another means than the program's cut and trim.
func wantRead(line string) (impl.FldField, bool) {
	m := fieldLine.FindStringSubmatch(line)
	if m == nil {
		return impl.FldField{}, false
	}
	return impl.FldField{Name: strings.ToLower(m[1]), Value: m[2]}, true
}

func checkField(t *testing.T, f impl.FldField) {
	t.Helper()
	ok, text := impl.FldOk(f), impl.FldText(f)
	if ok != wantField(f) {
		t.Fatalf("FldOk(%q) is %v", f, ok)
	}
	if !ok {
		if text != "" {
			t.Fatalf("FldText(%q) is %q", f, text)
		}
		return
	}
	if text != f.Name+": "+f.Value {
		t.Fatalf("FldText(%q) is %q", f, text)
	}
	if got, ok := impl.FldRead(text); got != f || !ok {
		t.Fatalf("FldRead(%q) is %q, %v", text, got, ok)
	}
}

func checkLine(t *testing.T, line string) {
	t.Helper()
	got, ok := impl.FldRead(line)
	want, wantOk := wantRead(line)
	if got != want || ok != wantOk {
		t.Fatalf("FldRead(%q) is %q, %v", line, got, ok)
	}
	if !ok {
		return
	}
	checkField(t, got)
	if !impl.FldOk(got) {
		t.Fatalf("FldRead(%q) is %q, which is invalid", line, got)
	}
}

// goodFields returns valid fields with names and values of all kinds.
func goodFields() []impl.FldField {
	values := []string{
		"", "a", "A", "~", "!", ":", "::", ": a", "a:", "a: b", "a:b:c", "a  b", "gz;q=0.5, *", "=", "%20", "|", "\"x\"", "a \\ b", "Host: x",
		strings.Repeat("v", 29), strings.Repeat("v", 30), "a" + strings.Repeat(" ", 28) + "z", strings.Repeat(":", 30), strings.Repeat("~", 30),
	}
	var good []impl.FldField
	for _, name := range []string{"a", "z", "0", "-", "--", "host", "if-none", "x-1", "9a", "length", "twelve-bytes"} {
		for _, value := range values {
			good = append(good, impl.FldField{Name: name, Value: value})
		}
	}
	return good
}

// badFields returns fields that are invalid for one reason each.
func badFields() []impl.FldField {
	var bad []impl.FldField
	for _, name := range []string{"", "A", "aB", "Host", " a", "a ", "a b", "a:", ":", "a:b", "a_b", "a.b", "a\n", "a\t", "\x00", "é", "ａ", "thirteen-byte", "a\xff"} {
		bad = append(bad, impl.FldField{Name: name, Value: "v"})
	}
	for _, value := range []string{
		" ", "  ", " v", "v ", " v ", "\t", "\tv", "v\t", "a\tb", "\n", "v\n", "v\r", "a\nb: c", "a\r\nb", "\x00", "v\x00", "\x1f", "\x7f", "v\x7f", "\x80", "\xff", "é", "\u00a0", "\u2028",
		strings.Repeat("v", 31), strings.Repeat("v", 300), "a" + strings.Repeat(" ", 29) + "z", strings.Repeat("é", 5),
	} {
		bad = append(bad, impl.FldField{Name: "a", Value: value})
	}
	return bad
}

func TestP17FieldsReadBack(t *testing.T) {
	for _, f := range goodFields() {
		if !impl.FldOk(f) {
			t.Fatalf("%q is valid", f)
		}
		checkField(t, f)
	}
}

func TestP17InvalidFields(t *testing.T) {
	for _, f := range append(badFields(), impl.FldField{}) {
		if impl.FldOk(f) {
			t.Fatalf("%q is invalid", f)
		}
		checkField(t, f)
	}
}

func TestP17EveryByteOfAField(t *testing.T) {
	for c := range 256 {
		one := string([]byte{byte(c)})
		for _, s := range []string{one, "a" + one, one + "a", "a" + one + "b", one + one, strings.Repeat(one, 12), strings.Repeat(one, 30), strings.Repeat(one, 31)} {
			checkField(t, impl.FldField{Name: s, Value: "v"})
			checkField(t, impl.FldField{Name: "a", Value: s})
		}
	}
}

func TestP17LengthsOfAField(t *testing.T) {
	for n := range 300 {
		long := strings.Repeat("a", n)
		checkField(t, impl.FldField{Name: long, Value: "v"})
		checkField(t, impl.FldField{Name: "a", Value: long})
		if got := impl.FldOk(impl.FldField{Name: "a", Value: long}); got != (n <= 30) {
			t.Fatalf("FldOk with a value of %d bytes is %v", n, got)
		}
	}
}

func TestP17AllShortFields(t *testing.T) {
	names := append(stringsOf([]string{"a", "-", "A", " ", ":"}, 2), oddStrings()...)
	values := append(stringsOf([]string{"a", "A", " ", ":", "\t", "\n", "~", "\x7f", "\xc3"}, 3), oddStrings()...)
	for _, name := range names {
		for _, value := range values {
			checkField(t, impl.FldField{Name: name, Value: value})
		}
	}
}

// upperSome returns s with the letters at all places, at even ones, and at odd ones in upper case.
func upperSome(s string) []string {
	even, odd := []byte(s), []byte(s)
	for i := range len(s) {
		up := strings.ToUpper(s[i : i+1])[0]
		if i%2 == 0 {
			even[i] = up
		} else {
			odd[i] = up
		}
	}
	return []string{strings.ToUpper(s), string(even), string(odd)}
}

func TestP17CaseAndSpacesMakeNoDifference(t *testing.T) {
	gaps := []string{"", " ", "  ", strings.Repeat(" ", 31), strings.Repeat(" ", 500)}
	for _, f := range goodFields() {
		for _, name := range append(upperSome(f.Name), f.Name) {
			for _, before := range gaps {
				for _, after := range gaps {
					line := name + ":" + before + f.Value + after
					if got, ok := impl.FldRead(line); got != f || !ok {
						t.Fatalf("FldRead(%q) is %q, %v", line, got, ok)
					}
				}
			}
		}
	}
}

func TestP17CaseOfAValueIsKept(t *testing.T) {
	for line, want := range map[string]string{"A:B": "B", "aB: cD ": "cD", "HOST: ONE.X:80": "ONE.X:80", "a:A: B": "A: B", "a::B": ":B"} {
		if got, ok := impl.FldRead(line); got.Value != want || !ok {
			t.Fatalf("FldRead(%q) is %q, %v", line, got, ok)
		}
	}
}

func TestP18LinesThatAreFields(t *testing.T) {
	for _, c := range [][3]string{
		{"X-One:  a: b ", "x-one", "a: b"}, {"a:", "a", ""}, {"a: ", "a", ""}, {"a:    ", "a", ""}, {"a:b", "a", "b"}, {"a::", "a", ":"}, {"a: :", "a", ":"},
		{"-:-", "-", "-"}, {"0: 007", "0", "007"}, {"A:A", "a", "A"}, {"a:b:c", "a", "b:c"}, {"a: b  c ", "a", "b  c"}, {"TWELVE-BYTES:x", "twelve-bytes", "x"},
	} {
		got, ok := impl.FldRead(c[0])
		if got.Name != c[1] || got.Value != c[2] || !ok {
			t.Fatalf("FldRead(%q) is %q, %v", c[0], got, ok)
		}
		checkLine(t, c[0])
	}
}

func TestP18LinesThatAreNone(t *testing.T) {
	for _, line := range []string{
		"", " ", "a", "a b", "host", "a b c", "a=b", "a;b", "a\uff1ab", ":", "::", ":a", ": a", " : a", " :", "a\n:b", "a\t:b", "a\t: b", "\ta: b", "a_b: c", "a.b: c", "a,b: c", "é: a", "\u212a: a",
		"a:\tb", "a: b\t", "a: b\n", "a: b\r", "a: b\r\n", "a: b\nc: d", "a: b\x00", "a:\x7f", "a: é", "a: \xff", "a:\u00a0b", "a\x00: b", "\x00a: b",
		"thirteen-byte: a", strings.Repeat("A", 13) + ":", "a:" + strings.Repeat("b", 31), "a: " + strings.Repeat("b", 31), "a:b" + strings.Repeat(" ", 29) + "b", "a:b " + strings.Repeat(" ", 600) + "b",
	} {
		if got, ok := impl.FldRead(line); ok || got != (impl.FldField{}) {
			t.Fatalf("FldRead(%q) is %q, %v", line, got, ok)
		}
	}
}

func TestP18SpacesAheadOfTheColon(t *testing.T) {
	for _, f := range goodFields() {
		for _, line := range []string{
			f.Name + " :" + f.Value, f.Name + " : " + f.Value, f.Name + "   : " + f.Value, " " + f.Name + ": " + f.Value, "  " + f.Name + ":" + f.Value,
			" " + f.Name + " : " + f.Value, strings.ToUpper(f.Name) + " : " + f.Value, f.Name + "\t: " + f.Value, f.Name + " x: " + f.Value,
		} {
			if got, ok := impl.FldRead(line); ok || got != (impl.FldField{}) {
				t.Fatalf("FldRead(%q) is %q, %v", line, got, ok)
			}
		}
	}
}

func TestP18InvalidFieldsAsLines(t *testing.T) {
	for _, f := range badFields() {
		for _, sign := range []string{":", ": ", " : ", ":  "} {
			checkLine(t, f.Name+sign+f.Value)
			checkLine(t, f.Name+sign+f.Value+" ")
		}
	}
}

func TestP18EveryByteOfALine(t *testing.T) {
	for c := range 256 {
		one := string([]byte{byte(c)})
		for _, line := range []string{one, "a" + one, "a" + one + "b", one + "a: b", "a" + one + ": b", "a" + one + "c: b", "a:" + one, "a:" + one + "b", "a: b" + one, "a: b" + one + "c", "a" + one + " b", "ab" + one + ":"} {
			checkLine(t, line)
		}
	}
}

func TestP18LengthsOfALine(t *testing.T) {
	for n := range 100 {
		long, gap := strings.Repeat("A", n), strings.Repeat(" ", n)
		for _, line := range []string{long + ":", long + ": b", "a:" + long, "a:  " + long + "  ", "a:" + gap + "b" + gap, "a:" + gap, "a:b" + gap + "c", long, long + ":" + long, gap + "a:b", "a" + gap + ":b"} {
			checkLine(t, line)
		}
	}
}

func TestP18AllShortLines(t *testing.T) {
	list := append(stringsOf([]string{"a", "B", ":", " ", "\t", "-", "\n"}, 6), oddStrings()...)
	accepted := 0
	for _, line := range list {
		checkLine(t, line)
		if _, ok := impl.FldRead(line); ok {
			accepted++
		}
	}
	if accepted < 1000 || accepted > len(list)/2 {
		t.Fatalf("%d accepted lines of %d prove little", accepted, len(list))
	}
}

func checkList(t *testing.T, list []impl.FldField, name string) {
	t.Helper()
	want := []string{}
	for i := len(list) - 1; i >= 0; i-- {
		if list[i].Name == name {
			want = append([]string{list[i].Value}, want...)
		}
	}
	given := append([]impl.FldField{}, list...)
	all := append([]string{}, impl.FldAll(list, name)...)
	one, ok := impl.FldOne(list, name)
	if !reflect.DeepEqual(all, want) {
		t.Fatalf("FldAll(%q, %q) is %q", list, name, all)
	}
	if ok != (len(want) == 1) || ok && one != want[0] || !ok && one != "" {
		t.Fatalf("FldOne(%q, %q) is %q, %v", list, name, one, ok)
	}
	if !reflect.DeepEqual(append([]impl.FldField{}, list...), given) {
		t.Fatalf("%q is changed to %q", given, list)
	}
}

func TestP19AllFieldsOfAName(t *testing.T) {
	pool := []impl.FldField{{Name: "a", Value: "1"}, {Name: "a", Value: "2"}, {Name: "b", Value: "1"}, {Name: "b", Value: ""}, {Name: "", Value: "3"}, {Name: "A", Value: "4"}}
	for _, list := range listsOf(pool, 5) {
		for _, name := range []string{"a", "b", "", "A", "c"} {
			checkList(t, list, name)
		}
	}
}

func TestP19NamesAreExact(t *testing.T) {
	list := []impl.FldField{{Name: "ab", Value: "1"}, {Name: "aB", Value: "2"}, {Name: " ab", Value: "3"}, {Name: "ab ", Value: "4"}, {Name: "a", Value: "5"}, {Name: "abc", Value: "6"}, {Name: "\xff", Value: "7"}, {Name: "ab\x00", Value: "8"}, {Name: "ab:", Value: "9"}}
	for _, f := range list {
		checkList(t, list, f.Name)
		if v, ok := impl.FldOne(list, f.Name); v != f.Value || !ok {
			t.Fatalf("FldOne of %q is %q, %v", f.Name, v, ok)
		}
	}
	for _, name := range append(oddStrings(), "AB", "Ab", "b", "ab  ", "\xfe", "\ufffd") {
		checkList(t, list, name)
	}
}

func TestP19InvalidFieldsAreFound(t *testing.T) {
	list := append(badFields(), badFields()...)
	for _, f := range list {
		checkList(t, list, f.Name)
	}
	if v, ok := impl.FldOne([]impl.FldField{{Name: "a", Value: " \n"}}, "a"); v != " \n" || !ok {
		t.Fatalf("FldOne is %q, %v", v, ok)
	}
}

func TestP19NoFields(t *testing.T) {
	for _, list := range [][]impl.FldField{nil, {}} {
		for _, name := range []string{"", "a"} {
			checkList(t, list, name)
		}
	}
	if v, ok := impl.FldOne([]impl.FldField{{Name: "a"}}, "a"); v != "" || !ok {
		t.Fatalf("an empty value is one: %q, %v", v, ok)
	}
}

func TestP19LongLists(t *testing.T) {
	var list []impl.FldField
	for i := range 300 {
		list = append(list, impl.FldField{Name: strings.Repeat("n", i%7), Value: strings.Repeat("v", i)})
	}
	for n := range 8 {
		checkList(t, list, strings.Repeat("n", n))
	}
}

func TestP19ValuesAreNew(t *testing.T) {
	list := []impl.FldField{{Name: "a", Value: "1"}, {Name: "b", Value: "2"}, {Name: "a", Value: "3"}}
	first := impl.FldAll(list, "a")
	first[0] = "changed"
	_ = append(first[:1], "changed")
	for range 3 {
		checkList(t, list, "a")
	}
	list[0].Value = "4"
	if again := impl.FldAll(list, "a"); len(again) != 2 || again[0] != "4" || again[1] != "3" {
		t.Fatalf("%q is kept from the call before", again)
	}
}
