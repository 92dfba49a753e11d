package tests

import (
	"fmt"
	"math"
	"math/rand"
	"regexp"
	"slices"
	"strconv"
	"strings"
	"testing"

	"loop.example/godown/impl"
)

var purgeLine = regexp.MustCompile(`^purge ([^ ?]+)$`)

func TestConstantsOfSeals(t *testing.T) {
	if impl.SelMax != 65521 {
		t.Fatal(impl.SelMax)
	}
}

// wantSealable says whether there is a seal for a key and what is told.
func wantSealable(key int, s impl.SelSeal) bool {
	return key == min(max(key, 1), 9999) && len(s.Path) < 41 && isTime(s.Until) && isTime(s.Nonce)
}

// wantSeal states SelOf by another means than the program's: every number stands at a power of 257, the last one first.
func wantSeal(key int, s impl.SelSeal) int {
	if !wantSealable(key, s) {
		return 0
	}
	numbers := []int{key, s.Nonce, s.Until, 2, len(s.Path)}
	if s.Under {
		numbers[3] = 1
	}
	path := []byte(s.Path)
	slices.Reverse(path)
	for _, b := range path {
		numbers = append(numbers, int(b))
	}
	sum, power := 0, 1
	for _, n := range append(numbers, key/3, key) {
		sum += power * (n + 31) % 65521
		power = power * 257 % 65521
	}
	return (sum + 7*power) % 65521
}

// wantRight states SelRight by another means than the program's.
func wantRight(key int, s impl.SelSeal, now, last int) bool {
	return wantSealable(key, s) && s.Seal == wantSeal(key, s) && now < s.Until && last < s.Nonce
}

func numberIn(s string) (int, bool) {
	n, err := strconv.Atoi(s)
	return n, err == nil && isTime(n) && fmt.Sprint(n) == s
}

// wantSel states SelRead by another means than the program's: by the lines of the encoding.
func wantSel(h impl.HedHead) (impl.SelSeal, bool) {
	encoding, ok := wantEncoding(h)
	lines := strings.Split(encoding, "\n")
	first := purgeLine.FindStringSubmatch(lines[0])
	if !ok || first == nil {
		return impl.SelSeal{}, false
	}
	told := map[string][]string{}
	for _, line := range lines[1:] {
		name, value, _ := strings.Cut(line, ": ")
		told[name] = append(told[name], value)
	}
	for _, name := range []string{"scope", "until", "nonce", "seal"} {
		if len(told[name]) != 1 {
			return impl.SelSeal{}, false
		}
	}
	until, untilOk := numberIn(told["until"][0])
	nonce, nonceOk := numberIn(told["nonce"][0])
	seal, sealOk := numberIn(told["seal"][0])
	scope := told["scope"][0]
	if !untilOk || !nonceOk || !sealOk || scope != "all" && scope != "one" {
		return impl.SelSeal{}, false
	}
	return impl.SelSeal{Path: first[1], Under: scope == "all", Until: until, Nonce: nonce, Seal: seal}, true
}

// purgeOf says all of a seal, as SelHead should.
func purgeOf(s impl.SelSeal) impl.HedHead {
	scope := map[bool]string{true: "all", false: "one"}[s.Under]
	return impl.HedHead{Verb: "purge", Target: s.Path, Host: "one.x", Fields: []impl.FldField{
		field("scope", scope), field("until", strconv.Itoa(s.Until)), field("nonce", strconv.Itoa(s.Nonce)), field("seal", strconv.Itoa(s.Seal)),
	}}
}

// wantSelHead states SelHead by another means than the program's.
func wantSelHead(host string, s impl.SelSeal) impl.HedHead {
	name, hostOk := wantHost(host)
	canon, pathOk := wantCanon(s.Path)
	numbersOk := isTime(s.Until) && isTime(s.Nonce) && isTime(s.Seal)
	if !hostOk || name != host || !pathOk || canon != s.Path || strings.Contains(s.Path, "?") || !numbersOk {
		return impl.HedHead{}
	}
	h := purgeOf(s)
	h.Host = host
	return h
}

// otherSeals returns what the seal must tell apart from a seal's data.
func otherSeals(s impl.SelSeal) []impl.SelSeal {
	until, nonce, scope := s, s, s
	until.Until--
	nonce.Nonce--
	scope.Under = !s.Under
	return []impl.SelSeal{until, nonce, scope}
}

// checkSeal holds SelOf to what the document says of it, and returns the seal.
func checkSeal(t *testing.T, key int, s impl.SelSeal) int {
	t.Helper()
	sealOf := func(s impl.SelSeal) int { return impl.SelOf(key, s.Path, s.Under, s.Until, s.Nonce) }
	got := sealOf(s)
	if got != wantSeal(key, s) || got < 0 || got >= impl.SelMax {
		t.Fatalf("SelOf(%d, %q, %v, %d, %d) is %d and not %d", key, s.Path, s.Under, s.Until, s.Nonce, got, wantSeal(key, s))
	}
	for _, other := range otherSeals(s) {
		if wantSealable(key, s) && wantSealable(key, other) && sealOf(other) == got {
			t.Fatalf("the seal of %#v and of %#v is %d", s, other, got)
		}
	}
	return got
}

func checkRight(t *testing.T, key int, s impl.SelSeal, now, last int) bool {
	t.Helper()
	got := impl.SelRight(key, s, now, last)
	if got != wantRight(key, s, now, last) {
		t.Fatalf("SelRight(%d, %#v, %d, %d) is %v", key, s, now, last, got)
	}
	return got
}

// checkPurge holds SelRead to what the document says of it.
func checkPurge(t *testing.T, h impl.HedHead) bool {
	t.Helper()
	before := copyOfHead(h)
	got, ok := impl.SelRead(h)
	want, wantOk := wantSel(h)
	if got != want || ok != wantOk {
		t.Fatalf("SelRead(%q) is %#v, %v and not %#v, %v", h, got, ok, want, wantOk)
	}
	if !sameHead(h, before) {
		t.Fatalf("%q has become %q", before, h)
	}
	if !ok {
		return false
	}
	for _, name := range []string{"scope", "until", "nonce", "seal"} {
		if _, one := impl.FldOne(h.Fields, name); !one {
			t.Fatalf("SelRead(%q) is %#v", h, got)
		}
	}
	if !impl.HedOk(h) || h.Verb != "purge" || impl.UriPath(h.Target) != h.Target || got.Path != h.Target {
		t.Fatalf("SelRead(%q) is %#v", h, got)
	}
	return true
}

// checkSelHead holds SelHead to what the document says of it, and what it returns to the bytes that it is sent by.
func checkSelHead(t *testing.T, host string, s impl.SelSeal) bool {
	t.Helper()
	got := impl.SelHead(host, s)
	if !sameHead(got, wantSelHead(host, s)) {
		t.Fatalf("SelHead(%q, %#v) is %q and not %q", host, s, got, wantSelHead(host, s))
	}
	if sameHead(got, impl.HedHead{}) {
		return false
	}
	bytes := impl.HedWrite(got)
	checkDone(t, bytes, got, len(bytes))
	read, _, _ := impl.HedRead(bytes)
	for _, h := range []impl.HedHead{got, read} {
		if !checkPurge(t, h) {
			t.Fatalf("SelRead(%q) is false", h)
		}
		if back, _ := impl.SelRead(h); back != s {
			t.Fatalf("SelRead(%q) is %#v and not %#v", h, back, s)
		}
	}
	return true
}

func sealOfPath(path string) impl.SelSeal {
	return impl.SelSeal{Path: path, Under: true, Until: 9, Nonce: 4, Seal: 4349}
}

func goodPaths() []string {
	return slices.DeleteFunc(somePlaces(), func(place string) bool { return strings.Contains(place, "?") })
}

// goodSeals returns what a request can say, with the smallest and the greatest of everything; whether the seals are right is another matter.
func goodSeals() []impl.SelSeal {
	var good []impl.SelSeal
	for _, path := range goodPaths() {
		for _, under := range []bool{false, true} {
			for _, until := range []int{0, 1, 10, 99999, 999999} {
				for _, nonce := range []int{0, 7, 999998, 999999} {
					for _, seal := range []int{0, 1, 65520, 65521, 999999} {
						good = append(good, impl.SelSeal{Path: path, Under: under, Until: until, Nonce: nonce, Seal: seal})
					}
				}
			}
		}
	}
	return good
}

func oddNumbers() []int {
	return []int{-1, -2, -999999, 1000000, 1000001, 1 << 32, -1 << 32, 1<<32 + 9, math.MinInt, math.MinInt + 9, math.MaxInt}
}

// badSeals returns what no request can say, for one reason each.
func badSeals() []impl.SelSeal {
	var bad []impl.SelSeal
	for _, path := range append(badPlaces(), "/a?", "/a?b", "/?", "?", "/a?b=c&d", "/?"+strings.Repeat("&", 38), "/a\nhost: b", "/a\n\nget /b", "/a\nscope: one") {
		bad = append(bad, sealOfPath(path))
	}
	for _, n := range oddNumbers() {
		until, nonce, seal := sealOfPath("/a"), sealOfPath("/a"), sealOfPath("/a")
		until.Until, nonce.Nonce, seal.Seal = n, n, n
		bad = append(bad, until, nonce, seal)
	}
	return append(bad, impl.SelSeal{})
}

func TestP44ReadBack(t *testing.T) {
	for _, s := range goodSeals() {
		for _, host := range []string{"a", "80", "one.x", "twelve-bytes.seven-b"} {
			if !checkSelHead(t, host, s) {
				t.Fatalf("SelHead(%q, %#v) is nothing", host, s)
			}
		}
	}
}

func TestP44Requests(t *testing.T) {
	for want, s := range map[string]impl.SelSeal{
		"purge /a\nhost: one.x\nscope: all\nuntil: 9\nnonce: 4\nseal: 4349\n\n":                 {Path: "/a", Under: true, Until: 9, Nonce: 4, Seal: 4349},
		"purge /a\nhost: one.x\nscope: one\nuntil: 9\nnonce: 4\nseal: 9003\n\n":                 {Path: "/a", Until: 9, Nonce: 4, Seal: 9003},
		"purge /\nhost: one.x\nscope: one\nuntil: 0\nnonce: 0\nseal: 0\n\n":                     {Path: "/"},
		"purge /%2C/b/\nhost: one.x\nscope: all\nuntil: 999999\nnonce: 999998\nseal: 65521\n\n": {Path: "/%2C/b/", Under: true, Until: 999999, Nonce: 999998, Seal: 65521},
	} {
		h := impl.SelHead("one.x", s)
		if got := impl.HedWrite(h); got != want {
			t.Fatalf("SelHead(.., %#v) is %q", s, got)
		}
		if got, ok := impl.SelRead(h); got != s || !ok {
			t.Fatalf("SelRead(%q) is %#v, %v", h, got, ok)
		}
	}
}

func TestP44WhatNoRequestSays(t *testing.T) {
	for _, s := range badSeals() {
		for _, host := range []string{"one.x", "a", "", "A"} {
			if checkSelHead(t, host, s) {
				t.Fatalf("SelHead(%q, %#v) is %q", host, s, impl.SelHead(host, s))
			}
		}
	}
}

func TestP44NoHosts(t *testing.T) {
	for _, host := range append(badNames(), "one.x\nhost: two.x", "one.x\n", "/", "?") {
		for _, s := range []impl.SelSeal{sealOfPath("/a"), {Path: "/"}, {Path: "/?"}, {}} {
			if checkSelHead(t, host, s) {
				t.Fatalf("SelHead(%q, %#v) is %q", host, s, impl.SelHead(host, s))
			}
		}
	}
}

func TestP44EveryByte(t *testing.T) {
	for b := range 256 {
		one := string([]byte{byte(b)})
		for _, s := range []string{one, "/" + one, "/a" + one, "/" + one + "a", "/a" + one + "/b", "/a/" + one + "/"} {
			checkSelHead(t, "one.x", sealOfPath(s))
			checkSelHead(t, s, sealOfPath("/a"))
			checkSelHead(t, s[1:]+"a", sealOfPath("/a"))
		}
	}
	for size := range 60 {
		s := sealOfPath("/" + strings.Repeat("t", size))
		if checkSelHead(t, "one.x", s) != (size < 40) {
			t.Fatalf("SelHead(.., %#v) is %q", s, impl.SelHead("one.x", s))
		}
	}
}

func TestP44EveryNumber(t *testing.T) {
	for n := -1000; n < 1001000; n += 31 {
		s := impl.SelSeal{Path: "/a", Under: n%2 == 0, Until: n, Nonce: 999999 - n, Seal: (n + 500000) % 1000000}
		if checkSelHead(t, "one.x", s) != (n >= 0 && n < 1000000) {
			t.Fatalf("SelHead(.., %#v) is %q", s, impl.SelHead("one.x", s))
		}
	}
}

func TestP45Requests(t *testing.T) {
	want := impl.SelSeal{Path: "/a", Under: true, Until: 9, Nonce: 4, Seal: 4349}
	for _, order := range ordersOf(purgeOf(want).Fields) {
		h := purgeOf(want)
		h.Fields = order
		for range 3 {
			if got, ok := impl.SelRead(h); got != want || !ok || !checkPurge(t, h) {
				t.Fatalf("SelRead(%q) is %#v, %v", h, got, ok)
			}
			h.Fields = slices.Insert(slices.Clone(h.Fields), len(h.Fields)/2, field("f"+strconv.Itoa(len(h.Fields)), "one"))
		}
		if checkPurge(t, h) {
			t.Fatalf("%q has too many fields", h)
		}
	}
}

func TestP45OtherFields(t *testing.T) {
	names := []string{"scopes", "scop", "-scope", "untils", "unti", "nonces", "nonc", "seals", "sea", "under", "path", "key", "accept", "if-none", "cookie", "hosts"}
	for _, name := range names {
		for _, value := range []string{"", "all", "one", "9", "both", "-1"} {
			for at := range 5 {
				h := purgeOf(sealOfPath("/a"))
				h.Fields = slices.Insert(h.Fields, at, field(name, value))
				if got, ok := impl.SelRead(h); got != sealOfPath("/a") || !ok || !checkPurge(t, h) {
					t.Fatalf("SelRead(%q) is %#v, %v", h, got, ok)
				}
			}
		}
	}
}

// notRead fails if a request has data of a purge.
func notRead(t *testing.T, h impl.HedHead) {
	t.Helper()
	if got, ok := impl.SelRead(h); ok || got != (impl.SelSeal{}) {
		t.Fatalf("SelRead(%q) is %#v, %v", h, got, ok)
	}
	checkPurge(t, h)
}

func TestP45EachFieldOnce(t *testing.T) {
	whole := purgeOf(sealOfPath("/a"))
	for at, f := range whole.Fields {
		h := whole
		h.Fields = slices.Delete(slices.Clone(whole.Fields), at, at+1)
		notRead(t, h)
		for _, name := range []string{strings.ToUpper(f.Name), f.Name + "s", f.Name[1:], "a", ""} {
			for place := range 4 {
				other := h
				other.Fields = slices.Insert(slices.Clone(h.Fields), place, field(name, f.Value))
				notRead(t, other)
			}
		}
		for _, value := range []string{f.Value, "all", "one", "9", "4349", "0", "", "both"} {
			for place := range 5 {
				h.Fields = slices.Insert(slices.Clone(whole.Fields), place, field(f.Name, value))
				notRead(t, h)
				h.Fields = slices.Insert(h.Fields, 0, field(f.Name, f.Value))
				notRead(t, h)
			}
		}
	}
	for _, list := range listsOf(whole.Fields, 3) {
		h := whole
		h.Fields = list
		notRead(t, h)
	}
}

func TestP45OtherValues(t *testing.T) {
	values := append(oddStrings(), notNumbers()...)
	for at := range 4 {
		for _, value := range values {
			h := purgeOf(sealOfPath("/a"))
			h.Fields[at].Value = value
			notRead(t, h)
		}
	}
	for _, word := range []string{"both", "ALL", "All", "ONE", "One", "al", "alll", "on", "ones", "all one", "all,one", "all;", "true", "false", "1", "2", "0", "none", "under", "*", "\"all\""} {
		h := purgeOf(sealOfPath("/a"))
		h.Fields[0].Value = word
		notRead(t, h)
	}
	for _, word := range []string{"all", "one", "9a", "9,4", "9 4", "9.", "0x9", "999999999"} {
		for at := 1; at < 4; at++ {
			h := purgeOf(sealOfPath("/a"))
			h.Fields[at].Value = word
			notRead(t, h)
		}
	}
}

func TestP45EveryByteOfAValue(t *testing.T) {
	for b := range 256 {
		one := string([]byte{byte(b)})
		for at := range 4 {
			value := purgeOf(sealOfPath("/a")).Fields[at].Value
			for _, changed := range []string{one, one + value, value + one, one + value[1:], value[:len(value)-1] + one} {
				h := purgeOf(sealOfPath("/a"))
				h.Fields[at].Value = changed
				checkPurge(t, h)
			}
		}
	}
}

func TestP45OtherVerbsAndTargets(t *testing.T) {
	for _, verb := range append(oddStrings(), "get", "put", "PURGE", "Purge", "purg", "purges", "delete", "purge ") {
		h := purgeOf(sealOfPath("/a"))
		h.Verb = verb
		notRead(t, h)
	}
	for _, target := range append(badPlaces(), "/a?", "/a?b", "/?", "/a/?q=1", "/?"+strings.Repeat("&", 38)) {
		notRead(t, purgeOf(sealOfPath(target)))
	}
	for _, host := range append(badNames(), "A") {
		h := purgeOf(sealOfPath("/a"))
		h.Host = host
		notRead(t, h)
	}
	for _, path := range goodPaths() {
		if !checkPurge(t, purgeOf(sealOfPath(path))) {
			t.Fatalf("%q is a path", path)
		}
	}
}

func TestP45InvalidRequests(t *testing.T) {
	for _, h := range append(badHeads(), goodHeads()...) {
		notRead(t, h)
		for at := range 3 {
			h.Fields = slices.Concat(purgeOf(sealOfPath("/a")).Fields, h.Fields[:min(at, len(h.Fields))])
			checkPurge(t, h)
		}
	}
	for _, f := range append(badFields(), field("host", "one.x"), field("length", "0"), field("transfer", "")) {
		for at := range 5 {
			h := purgeOf(sealOfPath("/a"))
			h.Fields = slices.Insert(h.Fields, at, f)
			notRead(t, h)
		}
	}
	for _, body := range []string{"b", " ", "\n", strings.Repeat("b", 21)} {
		h := purgeOf(sealOfPath("/a"))
		h.Body = body
		notRead(t, h)
	}
}

func TestP45AllShortLists(t *testing.T) {
	fields := []impl.FldField{field("scope", "all"), field("scope", "both"), field("until", "5"), field("nonce", "7"), field("seal", "9"), field("seal", "-"), field("accept", "gz")}
	read := 0
	for _, list := range listsOf(fields, 5) {
		if checkPurge(t, impl.HedHead{Verb: "purge", Target: "/a", Host: "one.x", Fields: list}) {
			read++
		}
	}
	if read != 24+120 {
		t.Fatalf("%d lists are read", read)
	}
}

func TestP47Seals(t *testing.T) {
	long := "/" + strings.Repeat("t", 39)
	for _, c := range []struct {
		key   int
		path  string
		under bool
		until int
		nonce int
		want  int
	}{
		{77, "/a", true, 9, 4, 4349}, {77, "/a", false, 9, 4, 9003}, {77, "/a", true, 8, 4, 3821}, {77, "/a", true, 9, 3, 4092}, {77, "/a", true, 9, 5, 4606},
		{78, "/a", true, 9, 4, 50868}, {79, "/a", true, 9, 4, 17972}, {5, "/", false, 10, 1, 56165},
		{1, "", true, 0, 0, 7524}, {1, "", false, 0, 0, 12178}, {9999, "", true, 0, 0, 38239}, {9999, long, true, 999999, 999999, 16833}, {9999, long, false, 999999, 999999, 21487},
		{2, "\xff\x00", true, 1, 2, 25891}, {3, "/a?b", true, 5, 6, 30007}, {3, "é", true, 5, 6, 49734},
		{0, "/a", true, 9, 4, 0}, {-1, "/a", true, 9, 4, 0}, {10000, "/a", true, 9, 4, 0}, {math.MinInt, "/a", true, 9, 4, 0}, {math.MaxInt, "/a", true, 9, 4, 0},
		{77, long + "t", true, 9, 4, 0}, {77, "/a", true, -1, 4, 0}, {77, "/a", true, 1000000, 4, 0}, {77, "/a", true, 9, -1, 0}, {77, "/a", true, 9, 1000000, 0},
	} {
		if got := impl.SelOf(c.key, c.path, c.under, c.until, c.nonce); got != c.want {
			t.Fatalf("SelOf(%d, %q, %v, %d, %d) is %d", c.key, c.path, c.under, c.until, c.nonce, got)
		}
		checkSeal(t, c.key, impl.SelSeal{Path: c.path, Under: c.under, Until: c.until, Nonce: c.nonce})
	}
}

// someKeys returns keys within the limits and around them, and numbers far from any.
func someKeys() []int {
	return []int{0, 1, 2, 3, 77, 5000, 9998, 9999, 10000, 10001, -1, -77, -9999, 999999, 1<<32 + 77, math.MinInt, math.MaxInt}
}

func TestP47EveryLimit(t *testing.T) {
	numbers := append(oddNumbers(), 0, 1, 9, 65520, 65521, 999998, 999999)
	paths := append(oddStrings(), "/", "/a", strings.Repeat("t", 39), strings.Repeat("t", 40), strings.Repeat("t", 41), strings.Repeat("\xff", 40), strings.Repeat("/", 1000))
	for _, key := range someKeys() {
		for _, path := range paths {
			for _, until := range numbers {
				for _, nonce := range numbers {
					checkSeal(t, key, impl.SelSeal{Path: path, Until: until, Nonce: nonce})
					checkSeal(t, key, impl.SelSeal{Path: path, Under: true, Until: until, Nonce: nonce})
				}
			}
		}
	}
}

func TestP47EveryKey(t *testing.T) {
	for key := -10; key < 10020; key++ {
		for _, s := range []impl.SelSeal{{}, sealOfPath("/a"), {Path: "/a", Until: 999999, Nonce: 999999}} {
			if got := checkSeal(t, key, s); (key < 1 || key > 9999) && got != 0 {
				t.Fatalf("SelOf(%d, %#v) is %d", key, s, got)
			}
		}
	}
}

func TestP47EveryByteOfAPath(t *testing.T) {
	for b := range 256 {
		one := string([]byte{byte(b)})
		for size := range 43 {
			checkSeal(t, 77, sealOfPath(strings.Repeat(one, size)))
			checkSeal(t, 77, sealOfPath(strings.Repeat("/", size)+one))
			checkSeal(t, 77, sealOfPath(one+strings.Repeat("a", size)))
		}
	}
}

// TestP47NextToEachOther goes through numbers in a row: of any two next to each other the seals differ.
func TestP47NextToEachOther(t *testing.T) {
	for n := range 70000 {
		for _, start := range []int{0, 930000} {
			checkSeal(t, 77, impl.SelSeal{Path: "/a", Under: n%2 == 0, Until: start + n, Nonce: 4})
			checkSeal(t, 77, impl.SelSeal{Path: "/a", Under: n%2 == 0, Until: 9, Nonce: start + n})
		}
	}
}

func TestP47AllShortPaths(t *testing.T) {
	seals := map[int]bool{}
	for _, path := range stringsOf([]string{"/", "a", "b", "\x00", "%2C"}, 5) {
		seals[checkSeal(t, 77, sealOfPath(path))] = true
	}
	if len(seals) < 3500 {
		t.Fatalf("%d seals of 3906 paths", len(seals))
	}
}

// right returns data with the seal that is right for a key.
func right(key int, s impl.SelSeal) impl.SelSeal {
	s.Seal = wantSeal(key, s)
	return s
}

func TestP46InTimeAndOnce(t *testing.T) {
	s := impl.SelSeal{Path: "/a", Under: true, Until: 9, Nonce: 4, Seal: 4349}
	for _, c := range []struct {
		key, now, last int
		want           bool
	}{
		{77, 8, 3, true}, {77, 0, 0, true}, {77, -1, -1, true}, {77, math.MinInt, math.MinInt, true},
		{77, 9, 3, false}, {77, 10, 3, false}, {77, 999999, 3, false}, {77, math.MaxInt, 3, false},
		{77, 8, 4, false}, {77, 8, 5, false}, {77, 8, 999999, false}, {77, 8, math.MaxInt, false}, {77, 9, 4, false},
		{76, 8, 3, false}, {78, 8, 3, false}, {0, 8, 3, false}, {-77, 8, 3, false}, {1<<32 + 77, 8, 3, false},
	} {
		if got := impl.SelRight(c.key, s, c.now, c.last); got != c.want {
			t.Fatalf("SelRight(%d, %#v, %d, %d) is %v", c.key, s, c.now, c.last, got)
		}
		checkRight(t, c.key, s, c.now, c.last)
	}
}

func TestP46EveryLimit(t *testing.T) {
	for _, key := range []int{1, 2, 77, 9999} {
		for _, s := range goodSeals() {
			s = right(key, s)
			for d := -2; d <= 2; d++ {
				for e := -2; e <= 2; e++ {
					if checkRight(t, key, s, s.Until+d, s.Nonce+e) != (d < 0 && e < 0) {
						t.Fatalf("SelRight(%d, %#v, %d, %d) is %v", key, s, s.Until+d, s.Nonce+e, d >= 0 || e >= 0)
					}
				}
			}
		}
	}
}

func TestP46OtherSeals(t *testing.T) {
	for _, s := range []impl.SelSeal{right(77, sealOfPath("/a")), right(77, sealOfPath("")), right(77, impl.SelSeal{Path: "/b", Until: 999999, Nonce: 999999})} {
		found := s.Seal
		for seal := -10; seal < 140000; seal++ {
			s.Seal = seal
			if impl.SelRight(77, s, s.Until-1, s.Nonce-1) != (seal == found) {
				t.Fatalf("SelRight(77, %#v, ..) is %v", s, seal != found)
			}
		}
		for _, seal := range append(oddNumbers(), found-65521, found+65521, -found, found+1<<32) {
			s.Seal = seal
			if checkRight(t, 77, s, s.Until-1, s.Nonce-1) {
				t.Fatalf("SelRight(77, %#v, ..) is true", s)
			}
		}
	}
}

// TestP46OtherData keeps a right seal and changes what it is for.
func TestP46OtherData(t *testing.T) {
	for _, key := range []int{1, 77, 9999} {
		for _, s := range goodSeals() {
			s = right(key, s)
			later, longer, scope := s, s, s
			later.Nonce++
			longer.Until++
			scope.Under = !s.Under
			for _, other := range []impl.SelSeal{later, longer, scope} {
				if checkRight(t, key, other, -1, -1) {
					t.Fatalf("SelRight(%d, %#v, ..) is true, and the seal is of %#v", key, other, s)
				}
			}
			s.Path += "x"
			checkRight(t, key, s, -1, -1)
			checkRight(t, key+1, s, -1, -1)
		}
	}
}

// TestP46OutOfRange has 0 as the seal, which is what SelOf returns of such arguments.
func TestP46OutOfRange(t *testing.T) {
	wrong := func(key int, s impl.SelSeal) {
		t.Helper()
		for _, seal := range []int{0, s.Seal} {
			s.Seal = seal
			if checkRight(t, key, s, math.MinInt, math.MinInt) || checkRight(t, key, s, -5, -5) {
				t.Fatalf("SelRight(%d, %#v, ..) is true", key, s)
			}
		}
	}
	for _, key := range append(oddNumbers(), 0, 10000, 10001) {
		wrong(key, sealOfPath("/a"))
		wrong(key, impl.SelSeal{Path: "/", Until: 1, Nonce: 1})
	}
	for _, size := range []int{41, 42, 80, 1000} {
		wrong(77, sealOfPath(strings.Repeat("t", size)))
	}
	for _, n := range oddNumbers() {
		until, nonce := sealOfPath("/a"), sealOfPath("/a")
		until.Until, nonce.Nonce = n, n
		wrong(77, until)
		wrong(77, nonce)
	}
}

// TestP46ASealOfZero says that 0 is a seal like any other where it is the one of the data.
func TestP46ASealOfZero(t *testing.T) {
	found := 0
	for nonce := range 65521 {
		s := impl.SelSeal{Path: "/a", Under: true, Until: 9, Nonce: nonce}
		if checkRight(t, 77, s, 8, -1) {
			found++
		}
	}
	if found != 1 {
		t.Fatalf("0 is the seal of %d nonces of 65521", found)
	}
}

// TestP46AnyPath says that the path of a seal need not be a target.
func TestP46AnyPath(t *testing.T) {
	for _, path := range append(oddStrings(), "a", "/a?b", "/%61", "//", strings.Repeat("\xff", 40)) {
		s := right(77, sealOfPath(path))
		if !checkRight(t, 77, s, 8, 3) || checkRight(t, 77, s, 9, 3) || checkRight(t, 77, s, 8, 4) {
			t.Fatalf("%#v", s)
		}
	}
}

// chancePurge puts a purge together by chance, valid more often than not.
func chancePurge(r *rand.Rand) impl.HedHead {
	pick := func(all ...string) string { return all[r.Intn(len(all))] }
	s := impl.SelSeal{Path: goodPaths()[r.Intn(len(goodPaths()))], Under: r.Intn(2) == 0, Until: r.Intn(1000000), Nonce: r.Intn(20), Seal: r.Intn(65521)}
	h := purgeOf(s)
	r.Shuffle(len(h.Fields), func(a, b int) { h.Fields[a], h.Fields[b] = h.Fields[b], h.Fields[a] })
	at := r.Intn(len(h.Fields))
	switch r.Intn(16) {
	case 0:
		h.Verb = pick("get", "put", "PURGE", "")
	case 1:
		h.Target = pick("/a?", "/a?b", "/%61", "/a//b", "")
	case 2:
		h.Fields = slices.Delete(h.Fields, at, at+1)
	case 3:
		h.Fields = append(h.Fields, h.Fields[at])
	case 4:
		h.Fields[at].Value = pick("", "both", "ALL", "-1", "01", "1000000", "all", "one", "7")
	case 5:
		h.Fields = append(h.Fields, field(pick("accept", "cookie", "host", "length"), "1"))
	case 6:
		h.Host = pick("A", "", "one.x:80", "two.x")
	}
	return h
}

func TestP45PurgesByChance(t *testing.T) {
	r := rand.New(rand.NewSource(45))
	read, refused := 0, 0
	for range 40000 {
		h := chancePurge(r)
		if !checkPurge(t, h) {
			refused++
			continue
		}
		read++
		s, _ := impl.SelRead(h)
		if !checkSelHead(t, h.Host, s) {
			t.Fatalf("SelHead(%q, %#v) is nothing", h.Host, s)
		}
	}
	if read < 20000 || refused < 5000 {
		t.Fatalf("%d purges, and %d requests that are none, prove little", read, refused)
	}
}

func TestP46SealsByChance(t *testing.T) {
	r := rand.New(rand.NewSource(46))
	rights, wrongs := 0, 0
	for range 100000 {
		key, path := r.Intn(10010), make([]byte, r.Intn(43))
		r.Read(path)
		s := impl.SelSeal{Path: string(path), Under: r.Intn(2) == 0, Until: r.Intn(1000010) - 5, Nonce: r.Intn(1000010) - 5}
		s.Seal = checkSeal(t, key, s)
		if r.Intn(5) == 0 {
			s.Seal += r.Intn(3) - 1
		}
		if checkRight(t, key, s, s.Until-3+r.Intn(5), s.Nonce-3+r.Intn(5)) {
			rights++
		} else {
			wrongs++
		}
	}
	if rights < 20000 || wrongs < 20000 {
		t.Fatalf("%d right and %d wrong seals prove little", rights, wrongs)
	}
}

func TestP45ResultsAreNew(t *testing.T) {
	h := purgeOf(sealOfPath(strings.Repeat("/a", 5)))
	s, ok := impl.SelRead(h)
	if !ok || s.Path != "/a/a/a/a/a" {
		t.Fatalf("%#v, %v", s, ok)
	}
	apart(t, s.Path, h.Target)
	again, _ := impl.SelRead(h)
	apart(t, s.Path, again.Path)
}

func TestP44ResultsAreNew(t *testing.T) {
	host, s := strings.Repeat("a", 9), impl.SelSeal{Path: strings.Repeat("/a", 5), Under: true, Until: 5, Nonce: 5, Seal: 5}
	first, second := impl.SelHead(host, s), impl.SelHead(host, s)
	for _, h := range []impl.HedHead{first, second} {
		apart(t, h.Target, s.Path)
		apart(t, h.Host, host)
	}
	apart(t, first.Target, second.Target)
	apart(t, first.Host, second.Host)
	for at, f := range first.Fields {
		for _, other := range slices.Concat(first.Fields[:at], second.Fields) {
			apart(t, f.Value, other.Value)
		}
	}
	fields := first.Fields[:cap(first.Fields)]
	for at := range fields {
		fields[at] = field("written", "w")
	}
	if !sameHead(second, impl.SelHead(host, s)) || second.Fields[0] != field("scope", "all") {
		t.Fatalf("%q", second)
	}
}
