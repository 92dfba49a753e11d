package tests

import (
	"fmt"
	"regexp"
	"strings"
	"testing"

	"loop.example/godown/impl"
)

var (
	targetShape   = regexp.MustCompile(`^(/([A-Za-z0-9._~-]|%[0-9A-Fa-f]{2})*)+(\?([A-Za-z0-9._~=&-]|%[0-9A-Fa-f]{2})*)?$`)
	anyEscape     = regexp.MustCompile(`%[0-9A-Fa-f]{2}`)
	doubtedEscape = regexp.MustCompile(`%(2[EeFf56]|3[FfDd])`)
	plainByte     = regexp.MustCompile(`^[A-Za-z0-9._~-]$`)
)

func TestConstantsOfTargets(t *testing.T) {
	if impl.UriMax != 40 {
		t.Fatal(impl.UriMax)
	}
}

func byteOfEscape(e string) string {
	var c byte
	fmt.Sscanf(e, "%%%x", &c)
	return string([]byte{c})
}

// wantMeans states UriMeans by another means than the program's steps.
func wantMeans(s string) string {
	return anyEscape.ReplaceAllStringFunc(s, byteOfEscape)
}

// wantCanon states UriCanon by another means than the program's steps.
func wantCanon(s string) (string, bool) {
	if len(s) > 40 || !targetShape.MatchString(s) || doubtedEscape.MatchString(s) {
		return "", false
	}
	path, _, _ := strings.Cut(s, "?")
	segments := strings.Split(path[1:], "/")
	for i, p := range segments {
		if p == "." || p == ".." || p == "" && i < len(segments)-1 {
			return "", false
		}
	}
	return anyEscape.ReplaceAllStringFunc(s, func(e string) string {
		if c := byteOfEscape(e); plainByte.MatchString(c) {
			return c
		}
		return strings.ToUpper(e)
	}), true
}

func checkCanon(t *testing.T, s string) {
	t.Helper()
	got, ok := impl.UriCanon(s)
	want, wantOk := wantCanon(s)
	if got != want || ok != wantOk {
		t.Fatalf("UriCanon(%q) is %q, %v", s, got, ok)
	}
	if !ok {
		return
	}
	if again, ok := impl.UriCanon(got); again != got || !ok {
		t.Fatalf("UriCanon of %q, twice, is %q, %v", s, again, ok)
	}
	if impl.UriMeans(got) != impl.UriMeans(s) {
		t.Fatalf("UriCanon changes what %q means", s)
	}
}

func refused(t *testing.T, list ...string) {
	t.Helper()
	for _, s := range list {
		if got, ok := impl.UriCanon(s); got != "" || ok {
			t.Fatalf("UriCanon(%q) is %q, %v", s, got, ok)
		}
	}
}

func canonOf(t *testing.T, s string) string {
	t.Helper()
	c, ok := impl.UriCanon(s)
	if !ok {
		t.Fatalf("%q is malformed", s)
	}
	return c
}

// targetStrings returns short strings of everything that a target may and may not hold.
func targetStrings() []string {
	all := stringsOf([]string{"/", "?", ".", "a", "%", "4", "E", "e", "="}, 5)
	for _, s := range stringsOf([]string{"/", "?", ".", "a", "&", "%41", "%7e", "%2c", "%2C", "%2e", "%2F", " "}, 4) {
		all = append(all, "/"+s)
	}
	return append(all, oddStrings()...)
}

// goodTargets returns targets that are not malformed, many of them in several forms.
func goodTargets() []string {
	var good []string
	for _, s := range stringsOf([]string{"/", "?", ".", "a", "A", "%61", "%41", "%2c", "%2C", "=", "&", "%7e", "~", "%00", "%ff", "%FF"}, 4) {
		if _, ok := wantCanon("/" + s); ok {
			good = append(good, "/"+s)
		}
	}
	return good
}

func TestP14CanonicalForms(t *testing.T) {
	for _, c := range [][2]string{
		{"/", "/"}, {"/a", "/a"}, {"/a/", "/a/"}, {"/a/b/c", "/a/b/c"}, {"/A", "/A"}, {"/-_~.", "/-_~."},
		{"/%61", "/a"}, {"/%41", "/A"}, {"/%5A%5a", "/ZZ"}, {"/%30%39", "/09"}, {"/%2d%5f%7e", "/-_~"}, {"/%2D%5F%7E", "/-_~"},
		{"/%2c", "/%2C"}, {"/%2C", "/%2C"}, {"/%c3%a4", "/%C3%A4"}, {"/%00%ff", "/%00%FF"}, {"/%20", "/%20"}, {"/%0a", "/%0A"},
		{"/?", "/?"}, {"/a?", "/a?"}, {"/a?b", "/a?b"}, {"/a/?b", "/a/?b"}, {"/?a=b&c=d", "/?a=b&c=d"}, {"/?&&==", "/?&&=="},
		{"/a?%61%2c", "/a?a%2C"}, {"/a?.", "/a?."}, {"/a?..", "/a?.."}, {"/a?.a", "/a?.a"},
		{"/...", "/..."}, {"/.a", "/.a"}, {"/a.", "/a."}, {"/..a", "/..a"}, {"/a..", "/a.."}, {"/.%61", "/.a"}, {"/a.b/...", "/a.b/..."},
		{"/%5b%5d%40%3a%3b", "/%5B%5D%40%3A%3B"}, {"/%24%27%28%2a%2b", "/%24%27%28%2A%2B"}, {"/%3c%3e%23", "/%3C%3E%23"},
	} {
		if got, ok := impl.UriCanon(c[0]); got != c[1] || !ok {
			t.Fatalf("UriCanon(%q) is %q, %v", c[0], got, ok)
		}
	}
}

func TestP14Malformed(t *testing.T) {
	refused(t, "", "a", "a/b", "?", "?a", "%2f", "%61", " /a", ".", "*", "http://one.x/", "\x00")
	refused(t, "/a b", "/a ", "/a\n", "/a\t", "/a\x00", "/a#b", "/a+b", "/a:b", "/a@b", "/a;b", "/a,b", "/ä", "/\xff", "/a\\b", "/a|b")
	refused(t, "/a=b", "/a&b", "/=", "/a?b?c", "/a??", "/?a/b", "/a?/", "/a?b c", "/a?b#", "/a?é", "/a?b\n", "/a?\x00")
}

func TestP14CutEscapes(t *testing.T) {
	refused(t, "/%", "/a%", "/%4", "/a%2", "/%/", "/%4/", "/%?", "/%4?", "/%%", "/%%41", "/%4%41", "/%zz", "/%4g", "/%g4", "/%4G", "/% 4", "/%-1")
	refused(t, "/a?%", "/a?%4", "/a?%&", "/a?%4&", "/a?%4=", "/a?%%41", "/a?%g1", "/a?%1g", "/a?%1`", "/a?%1@", "/a?%1:", "/a?%1/", "/a?%:1", "/a?%@1", "/a?%`1")
}

func TestP14DoubtedEscapes(t *testing.T) {
	for _, e := range []string{"%2e", "%2E", "%2f", "%2F", "%3f", "%3F", "%25", "%26", "%3d", "%3D"} {
		refused(t, "/"+e, "/a"+e, "/"+e+"a", "/a"+e+"b", "/a/"+e+"/b", "/?"+e, "/a?b"+e, "/a?"+e+"b", "/%61"+e, "/"+e+"41", e)
	}
}

func TestP14Segments(t *testing.T) {
	refused(t, "//", "//a", "/a//", "/a//b", "///", "/a/b//", "/a//?b", "//?")
	refused(t, "/.", "/..", "/./", "/../", "/a/.", "/a/..", "/a/./b", "/a/../b", "/./a", "/../a", "/.?a", "/..?a", "/a/..?", "/a/.?.", "/../..?b")
	refused(t, "/%2e", "/%2e%2e", "/.%2e", "/%2E.", "/a/%2e/b", "/a/%2e%2E/b", "/%2e%2e/a", "/%2e?a")
	for _, s := range []string{"/", "/a/", "/a/b/", "/a/?b", "/?", "/a?.", "/a?..", "/a?b.", "/a/?..", "/.../", "/..a/", "/a./b", "/a../b", "/.a/b", "/...?a"} {
		if c := canonOf(t, s); c != s {
			t.Fatalf("UriCanon(%q) is %q", s, c)
		}
	}
}

func TestP14Lengths(t *testing.T) {
	for n := 1; n <= 100; n++ {
		for _, s := range []string{"/" + strings.Repeat("a", n), "/" + strings.Repeat("%41", n), "/?" + strings.Repeat("%2c", n), "/" + strings.Repeat("a/", n), "/%61%2c" + strings.Repeat("b", n)} {
			checkCanon(t, s)
		}
	}
	full := "/" + strings.Repeat("%61", 13)
	if len(full) != 40 || canonOf(t, full) != "/aaaaaaaaaaaaa" {
		t.Fatal("a target of 40 bytes")
	}
	// The limit is for the bytes as given, however few the canonical form has.
	refused(t, full+"a", "/"+strings.Repeat("%61", 14), "/"+strings.Repeat("a", 40), strings.Repeat("a", 41), "/"+strings.Repeat("a", 1000))
}

func TestP14EveryByte(t *testing.T) {
	for c := range 256 {
		one := string([]byte{byte(c)})
		for _, s := range []string{one, "/" + one, "/a" + one + "b", "/a?" + one, "/a?b" + one + "c", "/%" + one, "/%4" + one, "/%" + one + "4", "/a?%" + one + "1", "/a?%6" + one, "/a/" + one + "/b", one + "/a"} {
			checkCanon(t, s)
		}
	}
}

func TestP14EveryEscape(t *testing.T) {
	for c := range 256 {
		for _, shape := range []string{"%%%02x", "%%%02X"} {
			e := fmt.Sprintf(shape, c)
			for _, s := range []string{"/" + e, "/a" + e + "b", "/a?" + e, "/?b" + e + "c", "/" + e + "/" + e, "/." + e, e} {
				checkCanon(t, s)
			}
		}
	}
}

func TestP14AllShortStrings(t *testing.T) {
	for _, s := range targetStrings() {
		checkCanon(t, s)
	}
}

func TestP14NothingUnnecessary(t *testing.T) {
	for _, s := range goodTargets() {
		c := canonOf(t, s)
		for _, e := range anyEscape.FindAllString(c, -1) {
			if e != strings.ToUpper(e) || plainByte.MatchString(byteOfEscape(e)) {
				t.Fatalf("UriCanon(%q) has the escape %s", s, e)
			}
		}
		path, _, _ := strings.Cut(c, "?")
		if strings.Contains(path, "//") || strings.Contains(path+"/", "/./") || strings.Contains(path+"/", "/../") || path[0] != '/' || strings.Count(c, "?") > 1 {
			t.Fatalf("UriCanon(%q) is %q", s, c)
		}
	}
}

func TestP15Meanings(t *testing.T) {
	for _, c := range [][2]string{
		{"", ""}, {"a", "a"}, {"%41", "A"}, {"%4a%4A", "JJ"}, {"%2e%2F", "./"}, {"%25", "%"}, {"%2541", "%41"}, {"%25%34%31", "%41"}, {"%00", "\x00"}, {"%fF", "\xff"},
		{"%", "%"}, {"%4", "%4"}, {"a%", "a%"}, {"%%", "%%"}, {"%%41", "%A"}, {"%4%41", "%4A"}, {"%%%41%", "%%A%"}, {"%g1", "%g1"}, {"%1g", "%1g"}, {"%4%", "%4%"}, {"%4%4", "%4%4"},
		{"?%3f?", "???"}, {" %20 ", "   "}, {"%c3%a4", "ä"}, {"%\xff41", "%\xff41"}, {"+", "+"}, {"%u0041", "%u0041"}, {"%41%", "A%"},
	} {
		if got := impl.UriMeans(c[0]); got != c[1] {
			t.Fatalf("UriMeans(%q) is %q", c[0], got)
		}
	}
	for _, s := range append(targetStrings(), strings.Repeat("%41", 1000), strings.Repeat("%", 1000), strings.Repeat("%4", 999)) {
		if got := impl.UriMeans(s); got != wantMeans(s) {
			t.Fatalf("UriMeans(%q) is %q", s, got)
		}
	}
}

func TestP15MeaningOfEveryEscape(t *testing.T) {
	for c := range 256 {
		one := string([]byte{byte(c)})
		for _, shape := range []string{"%%%02x", "%%%02X", "a%%%02x1"} {
			s := fmt.Sprintf(shape, c)
			if got := impl.UriMeans(s); got != strings.Replace(s, s[strings.Index(s, "%"):][:3], one, 1) {
				t.Fatalf("UriMeans(%q) is %q", s, got)
			}
		}
		for _, s := range []string{one, "%" + one + "1", "%1" + one, "%" + one + "%41"} {
			if got := impl.UriMeans(s); got != wantMeans(s) {
				t.Fatalf("UriMeans(%q) is %q", s, got)
			}
		}
	}
}

func TestP15EqualIfTheMeaningsAre(t *testing.T) {
	formOf, meaningOf := map[string]string{}, map[string]string{}
	good := goodTargets()
	for _, s := range good {
		c, m := canonOf(t, s), impl.UriMeans(s)
		if other, found := formOf[m]; found && other != c {
			t.Fatalf("%q has two canonical forms: %q and %q", m, c, other)
		}
		if other, found := meaningOf[c]; found && other != m {
			t.Fatalf("%q has two meanings: %q and %q", c, m, other)
		}
		formOf[m], meaningOf[c] = c, m
	}
	if len(formOf) == len(good) || len(formOf) < 1000 {
		t.Fatalf("%d meanings of %d targets prove little", len(formOf), len(good))
	}
}

// wantUnder states UriUnder by another means than the program's.
func wantUnder(top, s string) bool {
	path := strings.Split(s, "?")[0]
	if path == top {
		return true
	}
	if top != "" && top[len(top)-1] == '/' {
		return len(path) >= len(top) && path[:len(top)] == top
	}
	return len(path) > len(top) && path[:len(top)] == top && path[len(top)] == '/'
}

func TestP16Under(t *testing.T) {
	for _, c := range [][2]string{
		{"/", "/"}, {"/", "/a"}, {"/", "/a/b?c"}, {"/", "/?a"}, {"/a", "/a"}, {"/a", "/a?b"}, {"/a", "/a/"}, {"/a", "/a/b"}, {"/a", "/a/b/c?d"},
		{"/a/", "/a/"}, {"/a/", "/a/b"}, {"/a/", "/a/?b"}, {"/a/b", "/a/b/c"}, {"", ""}, {"", "?a"}, {"", "/a"}, {"", "/"}, {"a", "a/b"}, {"a/", "a//"}, {"%", "%/"},
	} {
		if !impl.UriUnder(c[0], c[1]) {
			t.Fatalf("%q is under %q", c[1], c[0])
		}
	}
	for _, c := range [][2]string{
		{"/a", "/"}, {"/a", "/ab"}, {"/a", "/A"}, {"/a", "/b"}, {"/a", "/b/a"}, {"/a", "/ab/c"}, {"/a/", "/a"}, {"/a/", "/a?/b"}, {"/a/", "/ab"}, {"/a/b", "/a"}, {"/a/b", "/a/c"}, {"/a/b", "/a/bc"},
		{"/a?b", "/a?b"}, {"/a?b", "/a?b/c"}, {"/a?", "/a?"}, {"/b", "/a?/b"}, {"/a", "?/a"}, {"/", ""}, {"/", "a"}, {"/", "?/"}, {"", "a"}, {"", "a/"}, {"/a", "/%61"}, {"/a", ""},
	} {
		if impl.UriUnder(c[0], c[1]) {
			t.Fatalf("%q is not under %q", c[1], c[0])
		}
	}
}

func TestP16AnyStrings(t *testing.T) {
	list := append(stringsOf([]string{"/", "a", "?", "b"}, 4), oddStrings()...)
	for _, top := range list {
		for _, s := range list {
			if got := impl.UriUnder(top, s); got != wantUnder(top, s) {
				t.Fatalf("UriUnder(%q, %q) is %v", top, s, got)
			}
		}
	}
}

func TestP16UnderItsPath(t *testing.T) {
	for _, s := range goodTargets() {
		if !impl.UriUnder(impl.UriPath(s), s) || !impl.UriUnder("/", s) {
			t.Fatalf("%q is under its path, and under /", s)
		}
	}
}

func TestP16UnderIsTransitive(t *testing.T) {
	list := stringsOf([]string{"/", "a", "?"}, 4)
	steps := 0
	for _, a := range list {
		for _, b := range list {
			if !impl.UriUnder(a, b) {
				continue
			}
			for _, c := range list {
				if impl.UriUnder(b, c) {
					steps++
					if !impl.UriUnder(a, c) {
						t.Fatalf("%q is under %q, which is under %q", c, b, a)
					}
				}
			}
		}
	}
	if steps < 100 {
		t.Fatal(steps)
	}
}

func TestP65Paths(t *testing.T) {
	for _, c := range [][2]string{
		{"", ""}, {"?", ""}, {"/a", "/a"}, {"/a?", "/a"}, {"/a?b", "/a"}, {"/a?b?c", "/a"}, {"??", ""}, {"a?b", "a"}, {"/a%3fb", "/a%3fb"}, {"/%61?b", "/%61"}, {"\xff?\xff", "\xff"}, {"/a/?b/c", "/a/"}, {" ? ", " "},
	} {
		if got := impl.UriPath(c[0]); got != c[1] {
			t.Fatalf("UriPath(%q) is %q", c[0], got)
		}
	}
	for c := range 256 {
		s := "/a" + string([]byte{byte(c)}) + "b"
		if got := impl.UriPath(s); got != strings.Split(s, "?")[0] {
			t.Fatalf("UriPath(%q) is %q", s, got)
		}
	}
}

func TestP65PathsAreCanonical(t *testing.T) {
	for _, s := range goodTargets() {
		c := canonOf(t, s)
		path := impl.UriPath(c)
		if canonOf(t, path) != path || impl.UriPath(path) != path {
			t.Fatalf("the path of %q is %q", c, path)
		}
		for _, q := range []string{"", "?", "?x", "?x=y&z", "?%2C", "?.."} {
			if impl.UriPath(path+q) != path || impl.UriPath(canonOf(t, path+q)) != path {
				t.Fatalf("the query makes a difference to the path of %q", path+q)
			}
			if impl.UriUnder(path, path+q) != true || impl.UriUnder("/a", path+q) != impl.UriUnder("/a", path) {
				t.Fatalf("the query makes a difference to what %q is under", path+q)
			}
		}
	}
}

func TestP66CaseOfEscapes(t *testing.T) {
	lower := func(s string) string { return anyEscape.ReplaceAllStringFunc(s, strings.ToLower) }
	upper := func(s string) string { return anyEscape.ReplaceAllStringFunc(s, strings.ToUpper) }
	list := append(targetStrings(), goodTargets()...)
	for _, a := range "0123456789abcdefABCDEF" {
		for _, b := range "0123456789abcdefABCDEF" {
			e := "%" + string(a) + string(b)
			list = append(list, "/"+e, "/a?"+e, "/x"+e+"/"+e+"y?"+e)
		}
	}
	for _, s := range list {
		c, ok := impl.UriCanon(s)
		for _, other := range []string{lower(s), upper(s)} {
			if got, gotOk := impl.UriCanon(other); got != c || gotOk != ok {
				t.Fatalf("UriCanon(%q) is %q, %v, but of %q it is %q, %v", other, got, gotOk, s, c, ok)
			}
			if impl.UriMeans(other) != impl.UriMeans(s) {
				t.Fatalf("%q and %q mean the same", other, s)
			}
		}
	}
	// The case of other letters does make a difference.
	if canonOf(t, "/a%2c") == canonOf(t, "/A%2c") || canonOf(t, "/%61") == canonOf(t, "/%41") {
		t.Fatal("letters of a target keep their case")
	}
}
