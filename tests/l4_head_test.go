package tests

import (
	"reflect"
	"regexp"
	"slices"
	"strconv"
	"strings"
	"testing"

	"loop.example/godown/impl"
)

var (
	hostForm  = regexp.MustCompile(`^([A-Za-z0-9-]{1,12}(?:\.[A-Za-z0-9-]{1,12})*)(?::80)?$`)
	firstLine = regexp.MustCompile(`^(get|put|purge) (?:http://([^/]*))?(/[^ ]*)$`)
	bodyBytes = regexp.MustCompile(`^[ -~]*$`)
	bodySize  = regexp.MustCompile(`^([0-9]|1[0-9]|20)$`)
)

func TestConstantsOfRequests(t *testing.T) {
	got := []int{impl.HedDone, impl.HedMore, impl.HedBad, impl.HedFields, impl.HedMax, impl.BodMax}
	if !slices.Equal(got, []int{1, 2, 3, 8, 300, 20}) {
		t.Fatal(got)
	}
}

// wantHost states HstCanon by another means than the program's.
func wantHost(s string) (string, bool) {
	m := hostForm.FindStringSubmatch(s)
	if m == nil || len(m[1]) > 20 {
		return "", false
	}
	return strings.ToLower(m[1]), true
}

// wantEncoding states HedWrite by another means than the program's; false for an invalid request.
func wantEncoding(h impl.HedHead) (string, bool) {
	target, targetOk := impl.UriCanon(h.Target)
	host, hostOk := wantHost(h.Host)
	ok := targetOk && hostOk && target == h.Target && host == h.Host && len(h.Fields) <= 6
	ok = ok && slices.Contains([]string{"get", "put", "purge"}, h.Verb)
	ok = ok && len(h.Body) <= 20 && bodyBytes.MatchString(h.Body) && (h.Body == "" || h.Verb == "put")
	head := h.Verb + " " + h.Target + "\nhost: " + h.Host + "\n"
	for _, f := range h.Fields {
		ok = ok && impl.FldOk(f) && f.Name != "host" && f.Name != "length" && f.Name != "transfer"
		head += f.Name + ": " + f.Value + "\n"
	}
	if h.Body != "" {
		head += "length: " + strconv.Itoa(len(h.Body)) + "\n"
	}
	head += "\n"
	if !ok || len(head) > 300 {
		return "", false
	}
	return head + h.Body, true
}

// wantHead states what lines without their ends say, by another means than the program's: the request without its body, and the length of that.
func wantHead(lines []string) (h impl.HedHead, size int, ok bool) {
	m := firstLine.FindStringSubmatch(lines[0])
	if m == nil {
		return h, 0, false
	}
	named, namedOk := wantHost(m[2])
	if strings.Contains(lines[0], " http://") && !namedOk {
		return h, 0, false
	}
	h.Verb = m[1]
	h.Target, ok = impl.UriCanon(m[3])
	hosts, lengths := 0, 0
	for _, line := range lines[1:] {
		f, fieldOk := impl.FldRead(line)
		ok = ok && fieldOk && f.Name != "transfer"
		switch f.Name {
		case "host":
			var hostOk bool
			h.Host, hostOk = wantHost(f.Value)
			hosts++
			ok = ok && hostOk
		case "length":
			lengths++
			ok = ok && bodySize.MatchString(f.Value)
			size, _ = strconv.Atoi(f.Value)
		default:
			h.Fields = append(h.Fields, f)
		}
	}
	ok = ok && hosts == 1 && lengths <= 1 && len(h.Fields) <= 6
	ok = ok && (!namedOk || named == h.Host) && (size == 0 || h.Verb == "put")
	return h, size, ok
}

// wantRequest states HedRead by another means than the program's.
func wantRequest(s string) (impl.HedHead, int, int) {
	end := strings.Index("\n"+s, "\n\n")
	if end > 299 || end < 0 && len(s) > 300 {
		return impl.HedHead{}, 0, impl.HedBad
	}
	if end < 0 {
		return impl.HedHead{}, 0, impl.HedMore
	}
	h, size, ok := wantHead(strings.Split(strings.TrimSuffix(s[:end], "\n"), "\n"))
	if !ok {
		return impl.HedHead{}, 0, impl.HedBad
	}
	rest := s[end+1:]
	if len(rest) < size {
		return impl.HedHead{}, 0, impl.HedMore
	}
	h.Body = rest[:size]
	if _, ok := wantEncoding(h); !ok {
		return impl.HedHead{}, 0, impl.HedBad
	}
	return h, end + 1 + size, impl.HedDone
}

// sameHead takes a nil list of fields and an empty one for the same.
func sameHead(a, b impl.HedHead) bool {
	fields := slices.Equal(a.Fields, b.Fields)
	a.Fields, b.Fields = nil, nil
	return fields && reflect.DeepEqual(a, b)
}

func checkRequest(t *testing.T, s string) int {
	t.Helper()
	h, used, what := impl.HedRead(s)
	want, wantUsed, wantWhat := wantRequest(s)
	if !sameHead(h, want) || used != wantUsed || what != wantWhat {
		t.Fatalf("HedRead(%q) is %q, %d, %d and not %q, %d, %d", s, h, used, what, want, wantUsed, wantWhat)
	}
	if what == impl.HedDone {
		checkHead(t, h)
	}
	return what
}

// checkHead holds the functions of a request to each other.
func checkHead(t *testing.T, h impl.HedHead) bool {
	t.Helper()
	want, wantOk := wantEncoding(h)
	ok, text := impl.HedOk(h), impl.HedWrite(h)
	if ok != wantOk || text != want {
		t.Fatalf("of %q HedOk is %v, HedWrite is %q", h, ok, text)
	}
	if ok {
		checkDone(t, text, h, len(text))
	}
	return ok
}

func checkDone(t *testing.T, s string, h impl.HedHead, size int) {
	t.Helper()
	got, used, what := impl.HedRead(s)
	if !sameHead(got, h) || used != size || what != impl.HedDone {
		t.Fatalf("HedRead(%q) is %q, %d, %d and not %q, %d", s, got, used, what, h, size)
	}
}

func checkNotDone(t *testing.T, s string, want int) {
	t.Helper()
	h, used, what := impl.HedRead(s)
	if what != want || used != 0 || !sameHead(h, impl.HedHead{}) {
		t.Fatalf("HedRead(%q) is %q, %d, %d and not %d", s, h, used, what, want)
	}
}

func checkHost(t *testing.T, s string) {
	t.Helper()
	got, ok := impl.HstCanon(s)
	want, wantOk := wantHost(s)
	if got != want || ok != wantOk {
		t.Fatalf("HstCanon(%q) is %q, %v", s, got, ok)
	}
	if again, still := impl.HstCanon(got); still != ok || again != got {
		t.Fatalf("HstCanon(%q) is %q, %v, of that %q, %v", s, got, ok, again, still)
	}
}

func TestP20Hosts(t *testing.T) {
	for s, want := range map[string]string{
		"a": "a", "A": "a", "one.x": "one.x", "ONE.x": "one.x", "one.x:80": "one.x", "One.X:80": "one.x", "80": "80", "80:80": "80", "-": "-", "a.b.c.d": "a.b.c.d",
		"a.80": "a.80", "0": "0", "twelve-bytes": "twelve-bytes", "twelve-bytes.seven-b": "twelve-bytes.seven-b", "TWELVE-BYTES.seven-B:80": "twelve-bytes.seven-b",
		"a.b.c.d.e.f.g.h.i.jk": "a.b.c.d.e.f.g.h.i.jk", "127.0.0.1": "127.0.0.1",
	} {
		if got, ok := impl.HstCanon(s); got != want || !ok {
			t.Fatalf("HstCanon(%q) is %q, %v", s, got, ok)
		}
		checkHost(t, s)
	}
}

func TestP20NoHosts(t *testing.T) {
	for _, s := range append(oddStrings()[:20],
		":80", ":80:80", "a:80:80", "a:", "a:8", "a:081", "a:080", "a:8080", "a:80 ", "a :80", " a", "a ", "a:80.", "a.:80", ".", "..", "a.", ".a", "a..b", ".a:80", "a:81", "a:80a", "a_b", "a/b", "a?b", "a@b", "a%41", "[a]", "a\n", "a\x00", "é", "\u212a", "a:８０",
		"thirteen-byte", "thirteen-byte.x", "x.thirteen-byte", "twelve-bytes.eight-by", "twelve-bytes.eight-by:80", "a.b.c.d.e.f.g.h.i.jkl", strings.Repeat("a", 20), strings.Repeat("a.", 1000)+"a", strings.Repeat(":80", 1000),
	) {
		if got, ok := impl.HstCanon(s); got != "" || ok {
			t.Fatalf("HstCanon(%q) is %q, %v", s, got, ok)
		}
		checkHost(t, s)
	}
}

func TestP20CaseAndPortMakeNoDifference(t *testing.T) {
	for _, s := range stringsOf([]string{"a", "z-", "9", ".", "eleven-byte", ":80"}, 4) {
		want, wantOk := impl.HstCanon(s)
		for _, form := range upperSome(s) {
			if got, ok := impl.HstCanon(form); got != want || ok != wantOk {
				t.Fatalf("HstCanon(%q) is %q, %v", form, got, ok)
			}
		}
		if got, ok := impl.HstCanon(want + ":80"); got != want || ok != wantOk {
			t.Fatalf("HstCanon(%q) is %q, %v", want+":80", got, ok)
		}
	}
}

func TestP20AllShortHosts(t *testing.T) {
	for _, s := range stringsOf([]string{"a", "Z", ".", ":", "80", ":80", "-", " "}, 6) {
		checkHost(t, s)
	}
	for c := range 256 {
		one := string([]byte{byte(c)})
		for _, s := range []string{one, one + "a", "a" + one, "a" + one + "b", "a." + one, "a" + one + "80", "a:8" + one, "a:80" + one, "a" + one + ":80", strings.Repeat(one, 12)} {
			checkHost(t, s)
		}
	}
}

func TestP20LengthsOfHosts(t *testing.T) {
	for first := range 30 {
		for second := range 30 {
			for _, end := range []string{"", ":80", ":80:80", "."} {
				checkHost(t, strings.Repeat("A", first)+"."+strings.Repeat("b", second)+end)
				checkHost(t, strings.Repeat("a.", first)+strings.Repeat("B", second)+end)
			}
		}
	}
}

func fieldsNamed(n int, value string) []impl.FldField {
	var fields []impl.FldField
	for i := range n {
		fields = append(fields, impl.FldField{Name: "f" + strconv.Itoa(i), Value: value})
	}
	return fields
}

// goodHeads returns valid requests of all kinds.
func goodHeads() []impl.HedHead {
	targets := []string{"/", "/a", "/a/", "/a%2Cb/c", "/a?", "/a?q=1&r=%2C", "/http", "/" + strings.Repeat("t", 39)}
	hosts := []string{"a", "80", "one.x", "twelve-bytes.seven-b"}
	bodies := []string{"", "x", " ", "\x7e", "  a  ", "host: b", "length: 1", "get / host: a", strings.Repeat("b", 9), strings.Repeat("b", 10), strings.Repeat("b", 20)}
	lists := [][]impl.FldField{
		nil, {{Name: "accept", Value: "gz"}}, {{Name: "a", Value: ""}}, {{Name: "a", Value: "1"}, {Name: "a", Value: "1"}, {Name: "b", Value: ": x"}},
		{{Name: "hosts", Value: "b"}, {Name: "-host", Value: "b"}, {Name: "hos", Value: "b"}, {Name: "length2", Value: "5"}, {Name: "transfers", Value: "5"}},
		fieldsNamed(6, ""), fieldsNamed(6, "~~"), {{Name: "twelve-bytes", Value: strings.Repeat("v", 30)}},
	}
	var good []impl.HedHead
	for _, target := range targets {
		for _, host := range hosts {
			for _, fields := range lists {
				good = append(good, impl.HedHead{Verb: "get", Target: target, Host: host, Fields: fields}, impl.HedHead{Verb: "purge", Target: target, Host: host, Fields: fields})
				for _, body := range bodies {
					good = append(good, impl.HedHead{Verb: "put", Target: target, Host: host, Fields: fields, Body: body})
				}
			}
		}
	}
	return good
}

func TestP1RequestsReadBack(t *testing.T) {
	for _, h := range goodHeads() {
		if !checkHead(t, h) {
			t.Fatalf("%q is valid", h)
		}
		text := impl.HedWrite(h)
		for _, rest := range []string{"\n", "x", " ", "\n\n", "get /\nhost: b\n\n", "length: 1\n\nx", "\x00\xff", text, strings.Repeat("y", 400)} {
			checkDone(t, text+rest, h, len(text))
		}
	}
}

func TestP1Encodings(t *testing.T) {
	for want, h := range map[string]impl.HedHead{
		"get /a\nhost: one.x\naccept: gz\n\n":                     {Verb: "get", Target: "/a", Host: "one.x", Fields: []impl.FldField{{Name: "accept", Value: "gz"}}},
		"put /\nhost: a\nlength: 3\n\nnew":                        {Verb: "put", Target: "/", Host: "a", Body: "new"},
		"put /\nhost: a\n\n":                                      {Verb: "put", Target: "/", Host: "a"},
		"put /\nhost: a\nz: 1\na: \nlength: 1\n\n~":               {Verb: "put", Target: "/", Host: "a", Fields: []impl.FldField{{Name: "z", Value: "1"}, {Name: "a"}}, Body: "~"},
		"purge /a?b=c\nhost: one.x\nseal: 1\n\n":                  {Verb: "purge", Target: "/a?b=c", Host: "one.x", Fields: []impl.FldField{{Name: "seal", Value: "1"}}},
		"put /\nhost: a\nlength: 20\n\n" + "0123456789abcdefghij": {Verb: "put", Target: "/", Host: "a", Body: "0123456789abcdefghij"},
	} {
		if got := impl.HedWrite(h); got != want {
			t.Fatalf("HedWrite(%q) is %q", h, got)
		}
	}
}

// badHeads returns requests that are invalid for one reason each.
func badHeads() []impl.HedHead {
	get := impl.HedHead{Verb: "get", Target: "/", Host: "a"}
	put := impl.HedHead{Verb: "put", Target: "/", Host: "a", Body: "b"}
	bad := []impl.HedHead{{}, {Verb: "get"}, {Verb: "get", Target: "/"}, {Verb: "get", Host: "a"}, {Target: "/", Host: "a"}}
	for _, verb := range append(oddStrings(), "GET", "Put", "post", "head", "delete", "get ", " get", "gets", "ge", "get\n", "purge\x00") {
		h := get
		h.Verb = verb
		bad = append(bad, h)
	}
	for _, target := range append(oddStrings(), "a", "/%61", "/%2c", "/a//b", "/.", "/../a", "/ ", "/a b", "/a\n", "http://a/", "//a", "/?/", "/%", "/"+strings.Repeat("t", 40)) {
		h := get
		h.Target = target
		bad = append(bad, h)
	}
	for _, host := range append(oddStrings()[:20], "A", "one.X", "a:80", "a.", "a..b", "thirteen-byte", "twelve-bytes.eight-by", "a\n", "a b", "a/") {
		h := get
		h.Host = host
		bad = append(bad, h)
	}
	for _, f := range append(badFields(), impl.FldField{Name: "host", Value: "a"}, impl.FldField{Name: "length", Value: "1"}, impl.FldField{Name: "transfer", Value: "x"}, impl.FldField{Name: "length"}) {
		h, p := get, put
		h.Fields = []impl.FldField{{Name: "a"}, f}
		p.Fields = []impl.FldField{f, {Name: "a"}}
		bad = append(bad, h, p)
	}
	for _, n := range []int{7, 8, 9, 1000} {
		h, p := get, put
		h.Fields, p.Fields = fieldsNamed(n, ""), fieldsNamed(n, "")
		bad = append(bad, h, p)
	}
	for _, body := range []string{strings.Repeat("b", 21), strings.Repeat("b", 5000), "\n", "a\n", "\t", "\x00", "a\x1f", "\x7f", "\x80", "é", "\xff"} {
		p := put
		p.Body = body
		bad = append(bad, p)
	}
	for _, verb := range []string{"get", "purge", "", "post"} {
		p := put
		p.Verb = verb
		bad = append(bad, p)
	}
	return bad
}

func TestP1InvalidRequests(t *testing.T) {
	for _, h := range badHeads() {
		if checkHead(t, h) {
			t.Fatalf("%q is invalid", h)
		}
	}
}

func TestP1EveryByteOfARequest(t *testing.T) {
	for c := range 256 {
		one := string([]byte{byte(c)})
		for _, s := range []string{one, "a" + one, one + "a", "/" + one, "get" + one} {
			checkHead(t, impl.HedHead{Verb: s, Target: "/", Host: "a"})
			checkHead(t, impl.HedHead{Verb: "get", Target: s, Host: "a"})
			checkHead(t, impl.HedHead{Verb: "get", Target: "/", Host: s})
			checkHead(t, impl.HedHead{Verb: "put", Target: "/", Host: "a", Body: s})
			checkHead(t, impl.HedHead{Verb: "put", Target: "/", Host: "a", Fields: []impl.FldField{{Name: "n", Value: s}}})
			checkHead(t, impl.HedHead{Verb: "put", Target: "/", Host: "a", Fields: []impl.FldField{{Name: s, Value: "v"}}})
		}
	}
}

// headOfSize returns a request whose encoding has that many bytes before the body.
func headOfSize(t *testing.T, size int, body string) impl.HedHead {
	t.Helper()
	h := impl.HedHead{Verb: "put", Target: "/", Host: "a", Body: body, Fields: fieldsNamed(6, "")}
	left := size - len("put /\nhost: a\n\n") - 6*len("f0: \n")
	if body != "" {
		left -= len("length: \n") + len(strconv.Itoa(len(body)))
	}
	for i := range h.Fields {
		n := max(0, min(30, left))
		h.Fields[i].Value = strings.Repeat("v", n)
		left -= n
	}
	n := max(0, min(39, left))
	h.Target += strings.Repeat("t", n)
	if left != n {
		t.Fatalf("no request has %d bytes", size)
	}
	return h
}

func TestP1LengthsOfRequests(t *testing.T) {
	for size := 60; size <= 260; size++ {
		for _, body := range []string{"", "b", "0123456789"} {
			if h := headOfSize(t, size, body); !checkHead(t, h) || len(impl.HedWrite(h)) != size+len(body) {
				t.Fatalf("%q of %d bytes is %q", h, size, impl.HedWrite(h))
			}
		}
	}
	long := headOfSize(t, 260, "0123456789")
	for _, verb := range []string{"get", "put", "purge"} {
		for n := range 13 {
			for size := range 21 {
				h := long
				h.Verb = verb
				h.Fields = slices.Clone(long.Fields)
				h.Fields[0].Name = strings.Repeat("n", n)
				h.Fields[1].Name = "twelve-bytes"
				h.Fields[2].Name = "twelve-bytes"
				h.Host = strings.Repeat("h", 10) + strings.Repeat(".h", size%6)
				h.Body = strings.Repeat("b", size)
				checkHead(t, h)
			}
		}
	}
}

func TestP1ArgumentsAreLeftAlone(t *testing.T) {
	whole := fieldsNamed(6, "v")
	given := slices.Clone(whole)
	h := impl.HedHead{Verb: "put", Target: "/", Host: "a", Fields: whole[:2], Body: "b"}
	for range 3 {
		checkHead(t, h)
		if !slices.Equal(whole, given) {
			t.Fatalf("%q is changed to %q", given, whole)
		}
	}
	first, _, _ := impl.HedRead(impl.HedWrite(h))
	first.Fields[0].Value = "changed"
	_ = append(first.Fields[:1], impl.FldField{})
	checkDone(t, impl.HedWrite(h), h, len(impl.HedWrite(h)))
}
