package tests

import (
	"math/rand"
	"slices"
	"strconv"
	"strings"
	"testing"

	"loop.example/godown/impl"
)

func TestP21FormsOfRequests(t *testing.T) {
	for s, want := range map[string]string{
		"get /\nhost: a\n\n": "get /\nhost: a\n\n",
		"get http://ONE.x:80/%61\nHost:one.x\nAccept: gz\n\n":                 "get /a\nhost: one.x\naccept: gz\n\n",
		"get http://one.x/\nHOST:   ONE.X:80  \n\n":                           "get /\nhost: one.x\n\n",
		"get http://a/b/c?d=e\nhost: a\n\n":                                   "get /b/c?d=e\nhost: a\n\n",
		"get /%2c?%7e\nhost: a\n\n":                                           "get /%2C?~\nhost: a\n\n",
		"put /\nlength: 3\nhost: a\n\nnew":                                    "put /\nhost: a\nlength: 3\n\nnew",
		"put /\nb: 2\nLENGTH:3 \na:1\nhost:a\nb:  1\n\nnew":                   "put /\nhost: a\nb: 2\na: 1\nb: 1\nlength: 3\n\nnew",
		"put /\nhost: a\nlength: 0\n\n":                                       "put /\nhost: a\n\n",
		"get /\nlength:0\nhost: a\n\n":                                        "get /\nhost: a\n\n",
		"purge /\nlength: 0\nhost: a\n\n":                                     "purge /\nhost: a\n\n",
		"put /\nlength: 20\nhost: a\n\n" + strings.Repeat(":", 20):            "put /\nhost: a\nlength: 20\n\n" + strings.Repeat(":", 20),
		"put /\nlength: 6\nhost: a\n\n  a b ":                                 "put /\nhost: a\nlength: 6\n\n  a b ",
		"get http://twelve-bytes.SEVEN-b:80/\nhost: twelve-bytes.seven-b\n\n": "get /\nhost: twelve-bytes.seven-b\n\n",
		"get /" + strings.Repeat("%61", 13) + "\nhost: a\n\n":                 "get /" + strings.Repeat("a", 13) + "\nhost: a\n\n",
	} {
		checkRequest(t, s)
		h, used, what := impl.HedRead(s)
		if got := impl.HedWrite(h); got != want || used != len(s) || what != impl.HedDone {
			t.Fatalf("HedRead(%q) is %d, %d, written %q", s, used, what, got)
		}
	}
}

// badRequests returns bytes that are malformed for one reason each, with their empty line and a body.
func badRequests() []string {
	var bad []string
	for _, first := range []string{
		"", " ", "get", "get ", "/", " /", "get/", "get\t/", "get  /", " get /", "get / ", "get / x", "get /a b", "get /\r", "get /\x00", "get a", "get http:/", "get ?", "get %2F", "GET /", "Get /", "post /", "gets /", "ge /", "get: /",
		"get /..", "get /a/./b", "get //", "get /%2e", "get /%", "get /" + strings.Repeat("a", 40), "get /#", "get /é",
		"get http://", "get http://a", "get http://a?b", "get http:///", "get http://:80/", "get http://a:/", "get http://a:81/", "get http://a:80:80/", "get http://a./", "get http://a_b/", "get http:// a/", "get http://a /", "get http:// /", "get http://a@b/", "get http://a?/b", "get HTTP://a/", "get http//a/", "get https://a/", "get http://http://a/", "get http:/a/", "get a/", "get //a/",
		"get http://a//", "get http://a/..", "get http://a/ ", "get http://a/%2F", "get http://a/" + strings.Repeat("a", 40), "get http://" + strings.Repeat("a", 13) + "/",
		"get http://b/", "get http://b:80/", "get http://aa/", "get http://a.a/", "get http://a.:80/",
	} {
		bad = append(bad, first+"\nhost: a\n\n")
	}
	for _, lines := range []string{
		"", "a: b\n", "hosts: a\n", "host\n", "host:\n", "host: \n", "host : a\n", " host: a\n", "host: a b\n", "host: a:81\n", "host: .a\n", "host: a/\n", "host: a, a\n", "host: http://a\n", "host: thirteen-byte\n",
		"host: a\nhost: a\n", "host: a\nHOST: A:80\n", "host: a\nhost: b\n", "host: a\nhost:\n", "host: a\na: b\nhost: a\n", "host:\nhost: a\n", "host: a\nhost: a\nhost: a\n",
		"host: a\nb\n", "host: a\nb c: d\n", "host: a\nb : c\n", "host: a\n b: c\n", "host: a\n: c\n", "host: a\n \n", "host: a\n\t\n", "host: a\n\r\n", "host: a\nb: \x00\n", "host: a\nb: c\r\n", "host: a\nthirteen-byte: c\n", "host: a\nb: " + strings.Repeat("c", 31) + "\n", "b\nhost: a\n", "host: a\nget /\n", "\tb\nhost: a\n",
		"host: a\ntransfer: chunked\n", "host: a\ntransfer:\n", "TRANSFER: x\nhost: a\n", "transfer: x\nhost: a\nlength: 1\n",
	} {
		for _, verb := range []string{"get", "put", "purge"} {
			bad = append(bad, verb+" /\n"+lines+"\nb")
		}
	}
	for _, size := range []string{"", "00", "01", "+1", "-1", "-0", " 1 1", "1 ", "1.0", "1a", "0x1", "１", "21", "22", "30", "99", "100", "999999", "1000000", "18446744073709551617", "18446744073709551616", "1, 1"} {
		line := "length: " + size + "\n"
		if size == "1 " {
			line = "length: 1\nlength: 1\n"
		}
		bad = append(bad, "put /\nhost: a\n"+line+"\n"+strings.Repeat("b", 30), "put /\n"+line+"host: a\n\n")
	}
	for _, lengths := range []string{"length: 0\nlength: 0\n", "length: 1\nlength: 0\n", "length: 0\nlength: 1\n", "length: 1\nlength: 2\n", "length:\nlength: 1\n", "length: 1\nb: c\nLength:1\n", "length: 1\nlength: x\n"} {
		bad = append(bad, "put /\nhost: a\n"+lengths+"\nbb", "put /\n"+lengths+"host: a\n\n")
	}
	for _, size := range []string{"1", "2", "20", "21", "x", ""} {
		bad = append(bad, "get /\nhost: a\nlength: "+size+"\n\nb", "purge /\nhost: a\nlength: "+size+"\n\n"+strings.Repeat("b", 20))
	}
	return bad
}

func TestP21MalformedRequests(t *testing.T) {
	for _, s := range badRequests() {
		checkNotDone(t, s, impl.HedBad)
		checkRequest(t, s+"get /\nhost: a\n\n")
	}
}

func TestP21ErrorsWaitForTheEmptyLine(t *testing.T) {
	for _, s := range badRequests() {
		end := strings.Index("\n"+s, "\n\n")
		for at := range end + 1 {
			checkNotDone(t, s[:at], impl.HedMore)
			checkRequest(t, s[:at])
		}
		checkNotDone(t, s[:end+1], impl.HedBad)
	}
}

func TestP21ErrorsInTheBodyWaitForItsEnd(t *testing.T) {
	for _, body := range []string{"\n\n\n", "a\nb", "\x00ab", "ab\x7f", "\xffab", "é!", "\t\t\t", "\r\n ", "a\r\n"} {
		s := "put /\nhost: a\nlength: 3\n\n" + body
		checkNotDone(t, s, impl.HedBad)
		checkNotDone(t, s+"more", impl.HedBad)
		for at := range len(s) {
			checkNotDone(t, s[:at], impl.HedMore)
		}
	}
}

func TestP21EveryByteOfARequest(t *testing.T) {
	for c := range 256 {
		one := string([]byte{byte(c)})
		for _, s := range []string{"get http://a:80/b\nhost: a\n\n", "put /\nLength:3 \nhost: a:80\nb:c\n\nnew", "purge /a?b\nhost: one.x\n\n"} {
			for at := range len(s) + 1 {
				checkRequest(t, s[:at]+one+s[at:])
				checkRequest(t, s[:at]+one+s[min(at+1, len(s)):])
			}
		}
	}
}

func TestP21LinesOfManyKinds(t *testing.T) {
	lines := []string{"host: a\n", "Host:A:80 \n", "host: b\n", "length: 0\n", "length: 2\n", "transfer: x\n", "c: d\n", "e\n"}
	done := 0
	for _, first := range []string{"get /\n", "put /%61\n", "purge http://a/\n", "put http://B:80/c\n"} {
		for _, fields := range stringsOf(lines, 4) {
			for _, body := range []string{"\n", "\nb", "\nbb", "\nbbb", ""} {
				if checkRequest(t, first+fields+body) == impl.HedDone {
					done++
				}
			}
		}
	}
	if done < 500 {
		t.Fatalf("%d requests prove little", done)
	}
}

func TestP21AllShortBytes(t *testing.T) {
	for _, s := range append(stringsOf([]string{"get /", "\n", "host: a", "length: 1", " ", "put /"}, 6), oddStrings()...) {
		checkRequest(t, s)
		checkRequest(t, "put /\n"+s)
	}
}

func TestP21NumbersOfFields(t *testing.T) {
	for n := range 20 {
		for _, size := range []string{"", "length: 0\n", "length: 1\n"} {
			var others strings.Builder
			for i := range n {
				others.WriteString("f" + strconv.Itoa(i) + ":\n")
			}
			for _, s := range []string{"put /\nhost: a\n" + size + others.String() + "\nb", "put /\n" + others.String() + size + "host: a\n\nb"} {
				want := impl.HedBad
				if n <= 6 {
					want = impl.HedDone
				}
				if got := checkRequest(t, s); got != want {
					t.Fatalf("HedRead(%q) is %d", s, got)
				}
				checkNotDone(t, strings.TrimSuffix(s, "\nb"), impl.HedMore)
				checkRequest(t, strings.TrimSuffix(s, "b"))
			}
		}
	}
}

// linesOfSize returns lines of a request that have, with the empty one, that many bytes.
func linesOfSize(size int) string {
	lines := "put /\nhost:" + strings.Repeat(" ", 100) + "a\nlength: 1\n"
	return lines + "b:" + strings.Repeat(" ", size-len(lines)-len("b:\n\n")) + "\n\n"
}

func TestP21LengthsOfLines(t *testing.T) {
	for size := 130; size <= 400; size++ {
		s := linesOfSize(size)
		if len(s) != size {
			t.Fatal(len(s))
		}
		want := impl.HedDone
		if size > 300 {
			want = impl.HedBad
		}
		for _, rest := range []string{"c", "cc", strings.Repeat("c", 400)} {
			if got := checkRequest(t, s+rest); got != want {
				t.Fatalf("HedRead(%q) is %d", s+rest, got)
			}
		}
		for at := range s {
			want := impl.HedMore
			if at > 300 {
				want = impl.HedBad
			}
			checkNotDone(t, s[:at], want)
		}
	}
}

func TestP21LengthsWithoutAnEnd(t *testing.T) {
	for _, one := range []string{"a", " ", "\x00", "\xff", "a\n", "get /\n"} {
		for size := range 400 {
			want := impl.HedMore
			if size > 300 {
				want = impl.HedBad
			}
			s := strings.Repeat(one, 400)[:size]
			checkNotDone(t, s, want)
			checkRequest(t, s+"\n")
			checkRequest(t, s+"\n\n")
		}
	}
	checkNotDone(t, strings.Repeat("a", 1<<20), impl.HedBad)
	checkNotDone(t, strings.Repeat("\n", 1<<20), impl.HedBad)
	checkNotDone(t, strings.Repeat("a\n", 1<<20), impl.HedBad)
}

// The canonical form has a space after every colon, and so more bytes than some of the lines that it stands for.
func TestP21LengthsOfTheEncoding(t *testing.T) {
	field := strings.Repeat("n", 11) + ":" + strings.Repeat("v", 30) + "\n"
	short := len("put /\nhost:a\nlength:2\n\n") + 6*len(field)
	for size := short; size <= 300; size++ {
		for _, body := range []string{"bb", "b\n"} {
			full := "put /" + strings.Repeat("t", size-short) + "\nhost:a\nlength:2\n" + strings.Repeat(field, 6) + "\n"
			want := impl.HedDone
			if size+8 > 300 || body == "b\n" {
				want = impl.HedBad
			}
			if got := checkRequest(t, full+body); got != want {
				t.Fatalf("HedRead(%q) is %d", full+body, got)
			}
			checkNotDone(t, full, impl.HedMore)
			checkNotDone(t, full+body[:1], impl.HedMore)
		}
	}
}

func TestP22PrefixesAreIncomplete(t *testing.T) {
	for _, h := range goodHeads() {
		s := impl.HedWrite(h)
		for at := range s {
			checkNotDone(t, s[:at], impl.HedMore)
		}
	}
	for _, size := range []int{298, 299, 300} {
		s := linesOfSize(size) + "c"
		for at := range s {
			checkNotDone(t, s[:at], impl.HedMore)
		}
	}
}

func TestP22LongestRequest(t *testing.T) {
	for _, body := range []string{"", "b", strings.Repeat("b", 20)} {
		h := impl.HedHead{Verb: "put", Target: "/", Host: "a", Body: body, Fields: fieldsNamed(6, strings.Repeat("v", 30))}
		for i := range h.Fields {
			h.Fields[i].Name = "n2345678"
		}
		head := len("put /\nhost: a\n\n") + 6*len("n2345678: "+strings.Repeat("v", 30)+"\n")
		if body != "" {
			head += len("length: \n" + strconv.Itoa(len(body)))
		}
		h.Target += strings.Repeat("t", 300-head)
		s := impl.HedWrite(h)
		if !checkHead(t, h) || len(s) != 300+len(body) {
			t.Fatalf("%q of %d bytes is valid", h, len(s))
		}
		for at := range s {
			checkNotDone(t, s[:at], impl.HedMore)
		}
		h.Host += "a"
		if checkHead(t, h) {
			t.Fatalf("%q is too long", h)
		}
	}
}

// withLine returns an encoding with one more line at every place behind the first one.
func withLine(s string, line string) []string {
	var all []string
	end := strings.Index(s, "\n\n") + 1
	for at := range end {
		if s[at] == '\n' {
			all = append(all, s[:at+1]+line+"\n"+s[at+1:])
		}
	}
	return all
}

func TestP23AmbiguousRequests(t *testing.T) {
	for _, h := range goodHeads() {
		s := impl.HedWrite(h)
		lines := []string{"host: " + h.Host, "host: other", "HOST:" + h.Host + ":80", "host:", "transfer: x", "Transfer:", "transfer: chunked"}
		if h.Body != "" {
			lines = append(lines, "length: "+strconv.Itoa(len(h.Body)), "length: 0", "Length:20", "length:", "length: x")
		}
		for _, line := range lines {
			for _, bad := range withLine(s, line) {
				checkNotDone(t, bad, impl.HedBad)
			}
		}
	}
}

func TestP23TargetsOfAnotherHost(t *testing.T) {
	for _, h := range goodHeads() {
		s := impl.HedWrite(h)
		verb, rest, _ := strings.Cut(s, " ")
		for _, same := range append(upperSome(h.Host), h.Host) {
			for _, port := range []string{"", ":80"} {
				checkForm(t, verb+" http://"+same+port+rest, h)
			}
		}
		for _, other := range []string{"other", h.Host + "a", h.Host + ".a", "a." + h.Host, h.Host + ":81", h.Host + ":", h.Host + ":80:80", h.Host + ".", "", ":80", h.Host[1:], "x" + h.Host[1:], " " + h.Host, "%61", h.Host + "?"} {
			checkNotDone(t, verb+" http://"+other+rest, impl.HedBad)
		}
	}
}

// checkForm holds another form of a request against the request; the form may only be too long.
func checkForm(t *testing.T, s string, h impl.HedHead) {
	t.Helper()
	if len(s)-len(h.Body) > 300 {
		checkNotDone(t, s, impl.HedBad)
		return
	}
	checkDone(t, s, h, len(s))
}

func TestP67RequestsOneByOne(t *testing.T) {
	heads := goodHeads()
	for i, first := range heads {
		for _, second := range []impl.HedHead{first, heads[(i+1)%len(heads)], heads[(i*7+3)%len(heads)]} {
			one, two := impl.HedWrite(first), impl.HedWrite(second)
			checkDone(t, one+two, first, len(one))
			_, used, _ := impl.HedRead(one + two)
			checkDone(t, (one + two)[used:], second, len(two))
		}
	}
}

func TestP67ManyRequests(t *testing.T) {
	heads := goodHeads()
	var all strings.Builder
	for _, h := range heads {
		all.WriteString(impl.HedWrite(h))
	}
	rest := all.String()
	for _, h := range heads {
		checkDone(t, rest, h, len(impl.HedWrite(h)))
		rest = rest[len(impl.HedWrite(h)):]
	}
	checkNotDone(t, rest, impl.HedMore)
}

func TestP67BodiesThatLookLikeRequests(t *testing.T) {
	first := impl.HedHead{Verb: "put", Target: "/", Host: "a", Body: "get / host: a"}
	for size := range 21 {
		first.Body = "get /~host:~a~~~~~~~~~~~"[:size]
		s := impl.HedWrite(first)
		checkDone(t, s+s, first, len(s))
		checkDone(t, s+"\n\n"+s, first, len(s))
		checkDone(t, s+"length: 1\n\nx", first, len(s))
	}
}

// The words are put together by chance, with the same numbers in every run.
func TestP21ManyWords(t *testing.T) {
	words := []string{"get ", "put ", "/", "/a", "http://a", "http://", "\nhost: a", "\nHost:A:80", "\nlength: 1", "\nlength:0", "\nlength: 2", "\nb:c", "\nb: ", "\n", "\n\n", "x", " ", ":", "\ntransfer: x", strings.Repeat("a", 30), "\x00"}
	chance := rand.New(rand.NewSource(4))
	for range 200000 {
		var s strings.Builder
		s.WriteString([]string{"", "get /", "put /", "put http://a/"}[chance.Intn(4)])
		for range chance.Intn(10) {
			s.WriteString(words[chance.Intn(len(words))])
		}
		checkRequest(t, s.String())
	}
}

func TestP21ResultsAreNew(t *testing.T) {
	s := "put /\nb: 1\nhost: a\nc: 2\n\n"
	first, _, _ := impl.HedRead(s)
	for i := range first.Fields {
		first.Fields[i] = impl.FldField{Name: "changed"}
	}
	second, _, _ := impl.HedRead(s)
	if !slices.Equal(second.Fields, []impl.FldField{{Name: "b", Value: "1"}, {Name: "c", Value: "2"}}) {
		t.Fatalf("%q", second)
	}
}
