package tests

import (
	"fmt"
	"math"
	"math/rand"
	"reflect"
	"slices"
	"strconv"
	"strings"
	"testing"
	"unsafe"

	"loop.example/godown/impl"
)

// wantKey states KeyOk by another means than the program's.
func wantKey(c impl.CfgCfg, k impl.KeyKey) bool {
	canon, ok := wantCanon(k.Place)
	known := ok && canon == k.Place && slices.Contains([]int{0, 1, 2, 3, 4, 5, 6, 7}, k.Mask)
	return known && wantCfg(c) && slices.Contains([]int{0, 1, 2, 3}[:len(c.Houses)], k.House)
}

// wantKeyText states KeyText by another means than the program's.
func wantKeyText(k impl.KeyKey) string {
	text := fmt.Sprintf("%d %d ", k.House, k.Mask)
	if uint(k.House) > 999999 {
		text = text[strings.Index(text, " "):]
	}
	if uint(k.Mask) > 999999 {
		text = text[:strings.Index(text, " ")] + "  "
	}
	return text + k.Place
}

// wantKeyRead states KeyRead by another means than the program's: it goes through all keys.
func wantKeyRead(c impl.CfgCfg, s string) (impl.KeyKey, bool) {
	for house := range c.Houses {
		for mask := range 8 {
			place, found := strings.CutPrefix(s, fmt.Sprintf("%d %d ", house, mask))
			k := impl.KeyKey{House: house, Place: place, Mask: mask}
			if found && wantKey(c, k) {
				return k, true
			}
		}
	}
	return impl.KeyKey{}, false
}

// wantKeyAsk states KeyAsk by another means than the program's.
func wantKeyAsk(c impl.CfgCfg, k impl.KeyKey, tag string) impl.HedHead {
	if !wantKey(c, k) || tag != "" && !fieldName.MatchString(tag) {
		return impl.HedHead{}
	}
	h := impl.HedHead{Verb: "get", Target: k.Place, Host: c.Houses[k.House].Names[0], Fields: []impl.FldField{accept(setTexts[k.Mask])}}
	if tag != "" {
		h.Fields = append(h.Fields, impl.FldField{Name: "if-none", Value: tag})
	}
	return h
}

// wantKeyOf states KeyOf by another means than the program's.
func wantKeyOf(c impl.CfgCfg, h impl.HedHead) (impl.KeyKey, bool) {
	house := wantRoute(c, h.Host)
	if _, ok := wantEncoding(h); !ok || h.Verb != "get" || house < 0 {
		return impl.KeyKey{}, false
	}
	mask, found := 1, 0
	for _, f := range h.Fields {
		if f.Name != "accept" {
			continue
		}
		found++
		if list, ok := wantParse(f.Value); ok {
			mask = wantMask(list)
		}
	}
	if found != 1 {
		mask = 1
	}
	return impl.KeyKey{House: house, Place: h.Target, Mask: mask}, true
}

// wantPutAsk states PutAsk by another means than the program's.
func wantPutAsk(c impl.CfgCfg, h impl.HedHead) (impl.HedHead, bool) {
	house := wantRoute(c, h.Host)
	if _, ok := wantEncoding(h); !ok || h.Verb != "put" || house < 0 {
		return impl.HedHead{}, false
	}
	h.Host, h.Fields = c.Houses[house].Names[0], nil
	return h, true
}

func copyOfHead(h impl.HedHead) impl.HedHead {
	h.Fields = slices.Clone(h.Fields)
	return h
}

func checkKeyAsk(t *testing.T, c impl.CfgCfg, k impl.KeyKey, tag string) {
	t.Helper()
	before := copyOfCfg(c)
	got, want := impl.KeyAsk(c, k, tag), wantKeyAsk(c, k, tag)
	if !sameHead(got, want) {
		t.Fatalf("KeyAsk(%#v, %#v, %q) is %q and not %q", c, k, tag, got, want)
	}
	if !reflect.DeepEqual(c, before) {
		t.Fatalf("%#v has become %#v", before, c)
	}
	if got.Verb == "" {
		return
	}
	if key, ok := impl.KeyOf(c, got); key != k || !ok || !impl.HedOk(got) {
		t.Fatalf("KeyOf %q is %#v, %v and not %#v", got, key, ok, k)
	}
	if value, one := impl.FldOne(got.Fields, "if-none"); value != tag || one != (tag != "") {
		t.Fatalf("KeyAsk(%#v, %#v, %q) is %q", c, k, tag, got)
	}
	checkDone(t, impl.HedWrite(got), got, len(impl.HedWrite(got)))
}

func checkKeyText(t *testing.T, c impl.CfgCfg, s string) bool {
	t.Helper()
	got, ok := impl.KeyRead(c, s)
	want, wantOk := wantKeyRead(c, s)
	if got != want || ok != wantOk {
		t.Fatalf("KeyRead(%#v, %q) is %#v, %v and not %#v, %v", c, s, got, ok, want, wantOk)
	}
	if ok && (impl.KeyText(got) != s || !impl.KeyOk(c, got)) {
		t.Fatalf("KeyRead(%#v, %q) is %#v, written %q", c, s, got, impl.KeyText(got))
	}
	return ok
}

// checkKey holds all functions of a key to what the document says of them.
func checkKey(t *testing.T, c impl.CfgCfg, k impl.KeyKey) bool {
	t.Helper()
	ok, text := impl.KeyOk(c, k), impl.KeyText(k)
	if ok != wantKey(c, k) || text != wantKeyText(k) {
		t.Fatalf("in %#v of %#v KeyOk is %v, KeyText is %q", c, k, ok, text)
	}
	if got, found := impl.KeyRead(c, text); ok && (got != k || !found) {
		t.Fatalf("KeyRead(%#v, %q) is %#v, %v", c, text, got, found)
	}
	checkKeyText(t, c, text)
	for _, tag := range []string{"", "t1", "twelve-bytes", "T", "thirteen-byte"} {
		checkKeyAsk(t, c, k, tag)
	}
	return ok
}

// checkForward holds what counts of a request, and how it goes on, to what the document says.
func checkForward(t *testing.T, c impl.CfgCfg, h impl.HedHead) (isGet bool, isPut bool) {
	t.Helper()
	cfgBefore, before := copyOfCfg(c), copyOfHead(h)
	key, isGet := impl.KeyOf(c, h)
	want, wantGet := wantKeyOf(c, h)
	if key != want || isGet != wantGet || isGet != impl.KeyOk(c, key) {
		t.Fatalf("KeyOf(%#v, %q) is %#v, %v and not %#v, %v", c, h, key, isGet, want, wantGet)
	}
	put, isPut := impl.PutAsk(c, h)
	wantHead, wantPut := wantPutAsk(c, h)
	if !sameHead(put, wantHead) || isPut != wantPut || isPut != impl.HedOk(put) {
		t.Fatalf("PutAsk(%#v, %q) is %q, %v and not %q, %v", c, h, put, isPut, wantHead, wantPut)
	}
	if !reflect.DeepEqual(c, cfgBefore) || !reflect.DeepEqual(h, before) {
		t.Fatalf("%#v and %q have become %#v and %q", cfgBefore, before, c, h)
	}
	return isGet, isPut
}

// twoHouses leads all hosts of goodHeads to one of two houses.
func twoHouses() impl.CfgCfg {
	return cfgOf(houseOf("one.x", "a"), houseOf("twelve-bytes.seven-b", "80", "also.x"))
}

// somePlaces returns canonical targets of all kinds, the shortest and the longest ones included.
func somePlaces() []string {
	return []string{
		"/", "/a", "/a/", "/a?", "/A", "/a/b?c=d&e", "/%2C", "/%20?%00", "/...", "/0", "/?", "/5", "/~._-",
		"/" + strings.Repeat("t", 39), "/" + strings.Repeat("%C3", 13), "/?" + strings.Repeat("&", 38),
	}
}

// badPlaces returns what is no canonical target: other forms of some, and what is malformed.
func badPlaces() []string {
	return append(oddStrings(),
		"a", "/%61", "/%2c", "/%7E", "/a?%41", "/a//b", "//", "/.", "/..", "/a/./b", "/../a", "/ ", " /", "/a ", "/a b", "/a /b", "/a\n", "/\x00", "/é", "/a?b?c", "/?/", "/a=b", "/%", "/%4", "/a?%",
		"http://one.x/a", "*", "/"+strings.Repeat("t", 40), "/"+strings.Repeat("%C3", 14), "5 /a", "0 5 /a", "/a 0 5",
	)
}

// badKeys returns, for two houses, keys that are invalid for one reason each.
func badKeys() []impl.KeyKey {
	var bad []impl.KeyKey
	for _, house := range []int{-1, -2, 2, 3, 4, 10, 999999, 1000000, 1 << 32, -1 << 32, math.MinInt, math.MaxInt} {
		bad = append(bad, impl.KeyKey{House: house, Place: "/a", Mask: 5})
	}
	for _, mask := range append(notSets(), 999999, 1000000) {
		bad = append(bad, impl.KeyKey{House: 1, Place: "/a", Mask: mask})
	}
	for _, place := range badPlaces() {
		bad = append(bad, impl.KeyKey{House: 0, Place: place, Mask: 5})
	}
	return append(bad, impl.KeyKey{}, impl.KeyKey{House: -1, Place: "x", Mask: 8}, impl.KeyKey{House: 2, Place: "/%61", Mask: -1})
}

func TestP31KeysReadBack(t *testing.T) {
	for _, c := range goodCfgs() {
		for house := range c.Houses {
			for mask := range 8 {
				for _, place := range somePlaces() {
					k := impl.KeyKey{House: house, Place: place, Mask: mask}
					if !impl.KeyOk(c, k) {
						t.Fatalf("%#v is valid", k)
					}
					if got, ok := impl.KeyRead(c, impl.KeyText(k)); got != k || !ok {
						t.Fatalf("KeyRead of KeyText of %#v is %#v, %v", k, got, ok)
					}
				}
			}
		}
	}
	for _, place := range somePlaces() {
		if !checkKey(t, twoHouses(), impl.KeyKey{House: 1, Place: place, Mask: 6}) {
			t.Fatalf("a key of %q is valid", place)
		}
	}
}

func TestP31TextsOfKeys(t *testing.T) {
	for want, k := range map[string]impl.KeyKey{
		"0 5 /a":         {House: 0, Place: "/a", Mask: 5},
		"1 0 /":          {House: 1, Place: "/", Mask: 0},
		"1 7 /a?b=%2C":   {House: 1, Place: "/a?b=%2C", Mask: 7},
		"0 0 ":           {},
		"3 8 /a":         {House: 3, Place: "/a", Mask: 8},
		" 5 /a":          {House: -1, Place: "/a", Mask: 5},
		"0  /a":          {House: 0, Place: "/a", Mask: -1},
		"  ":             {House: 1000000, Place: "", Mask: 1000000},
		"  x":            {House: math.MinInt, Place: "x", Mask: math.MaxInt},
		"999999 10 x y":  {House: 999999, Place: "x y", Mask: 10},
		"0 999999 0 5 /": {House: 0, Place: "0 5 /", Mask: 999999},
		" 1 \x00\xff\n":  {House: 1 << 32, Place: "\x00\xff\n", Mask: 1},
		"2 3 /%61//.. ":  {House: 2, Place: "/%61//.. ", Mask: 3},
	} {
		if got := impl.KeyText(k); got != want {
			t.Fatalf("KeyText(%#v) is %q", k, got)
		}
		checkKey(t, twoHouses(), k)
	}
}

func TestP31TextsOfAnyNumbersAndPlaces(t *testing.T) {
	numbers := append(notSets(), 0, 1, 2, 3, 5, 7, 9, 10, 99, 100, 999998, 999999, 1000000, 1000001)
	for _, house := range numbers {
		for _, mask := range numbers {
			for _, place := range []string{"/a", "", " ", "x y", "\xff"} {
				checkKey(t, twoHouses(), impl.KeyKey{House: house, Place: place, Mask: mask})
			}
		}
	}
	for _, place := range append(badPlaces(), strings.Repeat(" ", 1000), strings.Repeat("/a", 1<<16)) {
		checkKey(t, twoHouses(), impl.KeyKey{Place: place, Mask: 3})
	}
}

func TestP31InvalidKeys(t *testing.T) {
	for _, k := range badKeys() {
		if checkKey(t, twoHouses(), k) {
			t.Fatalf("%#v is invalid", k)
		}
		if got, ok := impl.KeyRead(twoHouses(), impl.KeyText(k)); ok || got != (impl.KeyKey{}) {
			t.Fatalf("KeyRead(%q) is %#v, %v", impl.KeyText(k), got, ok)
		}
	}
}

func TestP31EveryHouseAndSet(t *testing.T) {
	for houses := range 7 {
		c := housesOf(houses, 2)
		for house := -3; house < 12; house++ {
			for mask := -10; mask < 30; mask++ {
				k := impl.KeyKey{House: house, Place: "/a", Mask: mask}
				want := houses >= 1 && houses <= 4 && house >= 0 && house < houses && mask >= 0 && mask < 8
				if got := checkKey(t, c, k); got != want {
					t.Fatalf("with %d houses KeyOk of %#v is %v", houses, k, got)
				}
			}
		}
	}
}

// textsOfNoKey returns texts that are, for one house, those of no key, for one reason each.
func textsOfNoKey() []string {
	texts := append(oddStrings(),
		"0", "0 ", "0 5", "0 5 ", "0  5", "5 /a", "0 /a", "/a", " /a", "  /a", "0 5/a", "05 /a", "0 5 /a ", "0 5 /a x", "0 5 /a /a", "0 5 5 /a", "0 0 5 /a", " 0 5 /a", "0  5 /a", "0 5  /a", "0 5 /a\n", "\n0 5 /a",
		" 5 /a", "0  /a", "00 5 /a", "01 5 /a", "0 05 /a", "0 005 /a", "+0 5 /a", "-0 5 /a", "0 +5 /a", "0 -5 /a", "0 5. /a", "0.0 5 /a", "0x0 5 /a", "a 5 /a", "0 a /a", "０ 5 /a", "0 ５ /a", "0_0 5 /a",
		"1 5 /a", "2 5 /a", "4 5 /a", "9 5 /a", "10 5 /a", "-1 5 /a", "999999 5 /a", "1000000 5 /a", "4294967296 5 /a", "18446744073709551616 5 /a", "0 4294967301 /a", "0 18446744073709551621 /a",
		"0 8 /a", "0 9 /a", "0 10 /a", "0 15 /a", "0 -1 /a", "0 999999 /a", "0 1000000 /a", "0 plain /a",
		"0\t5\t/a", "0,5,/a", "0 5\t/a", "0\n5\n/a", "0\u00a05\u00a0/a", "get /a", "house 0 5 /a", strings.Repeat(" ", 1<<16), strings.Repeat("0 5 /a ", 1000), strings.Repeat("0", 1000)+" 5 /a",
	)
	for _, place := range badPlaces() {
		texts = append(texts, "0 5 "+place)
	}
	return texts
}

func TestP31TextsThatAreNoKeys(t *testing.T) {
	one := cfgOf(houseOf("one.x", "also.x"))
	if !checkKeyText(t, one, "0 5 /a") {
		t.Fatal("a key is none")
	}
	for _, s := range textsOfNoKey() {
		if got, ok := impl.KeyRead(one, s); ok || got != (impl.KeyKey{}) {
			t.Fatalf("KeyRead(%q) is %#v, %v", s, got, ok)
		}
		checkKeyText(t, one, s)
		checkKeyText(t, twoHouses(), s)
		checkKeyText(t, housesOf(4, 1), s)
	}
}

func TestP31EveryByteOfAKeyText(t *testing.T) {
	for b := range 256 {
		one := string([]byte{byte(b)})
		for _, s := range []string{"", "0 5 /a", "1 0 /", "0 7 /a?b=%2C"} {
			for at := range len(s) + 1 {
				checkKeyText(t, twoHouses(), s[:at]+one+s[at:])
				checkKeyText(t, twoHouses(), s[:at]+one+s[min(at+1, len(s)):])
				checkKeyText(t, twoHouses(), s[:at]+s[min(at+1, len(s)):])
			}
		}
	}
}

func TestP31AllShortKeyTexts(t *testing.T) {
	good := 0
	for _, s := range append(stringsOf([]string{"0", "1", "7", "8", " ", "/", "a", "%2C", "-"}, 6), oddStrings()...) {
		if checkKeyText(t, twoHouses(), s) {
			good++
		}
	}
	// Two houses and three sets, and behind the slash nothing or one of seven pieces.
	if good != 2*3*(1+7) {
		t.Fatalf("%d keys", good)
	}
}

func TestP31InvalidConfigurations(t *testing.T) {
	for _, c := range badCfgs() {
		for _, house := range []int{-1, 0, 1, len(c.Houses) - 1, len(c.Houses)} {
			k := impl.KeyKey{House: house, Place: "/a", Mask: 5}
			if checkKey(t, c, k) {
				t.Fatalf("in %#v %#v is valid", c, k)
			}
		}
		if got, ok := impl.KeyRead(c, "0 5 /a"); ok || got != (impl.KeyKey{}) {
			t.Fatalf("KeyRead(%#v, ..) is %#v, %v", c, got, ok)
		}
	}
}

func getOf(host string, fields ...impl.FldField) impl.HedHead {
	return impl.HedHead{Verb: "get", Target: "/a", Host: host, Fields: fields}
}

func field(name, value string) impl.FldField {
	return impl.FldField{Name: name, Value: value}
}

func TestP32KeysOfRequests(t *testing.T) {
	for _, c := range []struct {
		h    impl.HedHead
		want impl.KeyKey
	}{
		{getOf("one.x"), impl.KeyKey{House: 0, Place: "/a", Mask: 1}},
		{getOf("a"), impl.KeyKey{House: 0, Place: "/a", Mask: 1}},
		{getOf("also.x"), impl.KeyKey{House: 1, Place: "/a", Mask: 1}},
		{getOf("80", accept("gz")), impl.KeyKey{House: 1, Place: "/a", Mask: 3}},
		{getOf("one.x", field("cookie", "z"), accept("br")), impl.KeyKey{House: 0, Place: "/a", Mask: 5}},
		{getOf("one.x", accept("BR ; q=0.5"), field("cookie", "z")), impl.KeyKey{House: 0, Place: "/a", Mask: 5}},
		{getOf("one.x", accept("*;q=0")), impl.KeyKey{House: 0, Place: "/a", Mask: 0}},
		{getOf("one.x", accept("gz"), accept("br")), impl.KeyKey{House: 0, Place: "/a", Mask: 1}},
		{getOf("one.x", accept("gz"), accept("gz")), impl.KeyKey{House: 0, Place: "/a", Mask: 1}},
		{getOf("one.x", accept("zip")), impl.KeyKey{House: 0, Place: "/a", Mask: 1}},
		{getOf("one.x", accept("")), impl.KeyKey{House: 0, Place: "/a", Mask: 1}},
		{getOf("one.x", accept("gz,")), impl.KeyKey{House: 0, Place: "/a", Mask: 1}},
		{getOf("one.x", field("if-none", "t1"), field("accepts", "gz")), impl.KeyKey{House: 0, Place: "/a", Mask: 1}},
		{impl.HedHead{Verb: "get", Target: "/a?b=%2C", Host: "one.x"}, impl.KeyKey{House: 0, Place: "/a?b=%2C", Mask: 1}},
	} {
		if got, ok := impl.KeyOf(twoHouses(), c.h); got != c.want || !ok {
			t.Fatalf("KeyOf(%q) is %#v, %v", c.h, got, ok)
		}
		checkForward(t, twoHouses(), c.h)
	}
}

func TestP32KeysAreValid(t *testing.T) {
	gets := 0
	for _, h := range goodHeads() {
		for _, c := range []impl.CfgCfg{twoHouses(), cfgOf(houseOf("80")), cfgOf(houseOf("x"), houseOf("y"), houseOf("z", "one.x"))} {
			key, ok := impl.KeyOf(c, h)
			if ok && !impl.KeyOk(c, key) {
				t.Fatalf("KeyOf(%q) is %#v", h, key)
			}
			if isGet, _ := checkForward(t, c, h); isGet {
				gets++
			}
		}
	}
	if gets < 300 {
		t.Fatalf("%d keys prove little", gets)
	}
}

func TestP32OtherNamesOfTheHouse(t *testing.T) {
	for _, c := range goodCfgs() {
		for house, own := range c.Houses {
			for _, value := range append(setTexts[:], "zip", "GZ;q=0.1,*") {
				want, ok := impl.KeyOf(c, getOf(own.Names[0], accept(value)))
				if !ok || want.House != house || want.Place != "/a" {
					t.Fatalf("in %#v KeyOf %q is %#v, %v", c, own.Names[0], want, ok)
				}
				for _, name := range own.Names {
					if got, ok := impl.KeyOf(c, getOf(name, accept(value))); got != want || !ok {
						t.Fatalf("in %#v KeyOf %q is %#v and not %#v", c, name, got, want)
					}
				}
			}
		}
	}
}

// TestP32OtherFieldsAndOrders puts fields that are not accept in every order around accept fields.
func TestP32OtherFieldsAndOrders(t *testing.T) {
	others := []impl.FldField{field("a", "1"), field("cookie", "gz"), field("accept-", "*"), field("if-none", "t1")}
	for _, accepts := range [][]impl.FldField{nil, {accept("gz")}, {accept("plain;q=0, br")}, {accept("*;q=0")}, {accept("zip")}, {accept("gz"), accept("br")}} {
		want, ok := impl.KeyOf(twoHouses(), getOf("one.x", accepts...))
		if !ok {
			t.Fatalf("there is a key for %q", accepts)
		}
		for _, more := range listsOf(others, 2) {
			all := append(slices.Clone(accepts), more...)
			for _, order := range ordersOf(all) {
				if got, ok := impl.KeyOf(twoHouses(), getOf("a", order...)); got != want || !ok {
					t.Fatalf("with %q the key is %#v and not %#v", order, got, want)
				}
			}
		}
	}
}

// ordersOf returns a list in all orders.
func ordersOf[T any](list []T) [][]T {
	if len(list) == 0 {
		return [][]T{nil}
	}
	var all [][]T
	for _, order := range ordersOf(list[1:]) {
		for at := range len(order) + 1 {
			all = append(all, slices.Insert(slices.Clone(order), at, list[0]))
		}
	}
	return all
}

func TestP32RequestsWithoutAKey(t *testing.T) {
	bad := append(badHeads(),
		getOf("two.x"), getOf("one"), getOf("one.x.x"), getOf("b"), getOf("80.80"), getOf("ONE.X"), getOf("one.x:80"), getOf("A"), getOf("one.x "), getOf(""),
		impl.HedHead{Verb: "put", Target: "/a", Host: "one.x"}, impl.HedHead{Verb: "purge", Target: "/a", Host: "one.x"}, impl.HedHead{Verb: "GET", Target: "/a", Host: "one.x"},
		impl.HedHead{Verb: "get", Target: "/%61", Host: "one.x"}, impl.HedHead{Verb: "get", Target: "/a", Host: "one.x", Body: "b"},
		getOf("one.x", field("host", "one.x")), getOf("one.x", field("Accept", "gz")), getOf("one.x", accept("gz ")), getOf("one.x", fieldsNamed(7, "")...),
	)
	for _, h := range bad {
		if got, ok := impl.KeyOf(twoHouses(), h); ok || got != (impl.KeyKey{}) {
			t.Fatalf("KeyOf(%q) is %#v, %v", h, got, ok)
		}
		checkForward(t, twoHouses(), h)
	}
}

func TestP32InvalidConfigurations(t *testing.T) {
	for _, c := range badCfgs() {
		names, _ := namesIn(c)
		for _, name := range append(names, "one.x") {
			if got, ok := impl.KeyOf(c, getOf(name, accept("gz"))); ok || got != (impl.KeyKey{}) {
				t.Fatalf("KeyOf(%#v, %q) is %#v, %v", c, name, got, ok)
			}
		}
		for _, h := range []impl.HedHead{getOf("one.x"), {Verb: "put", Target: "/a", Host: "one.x", Body: "b"}, {}} {
			checkForward(t, c, h)
		}
	}
}

// chanceHead puts a request together by chance, valid more often than not.
func chanceHead(r *rand.Rand, c impl.CfgCfg) impl.HedHead {
	pick := func(all ...string) string { return all[r.Intn(len(all))] }
	names, _ := namesIn(c)
	h := impl.HedHead{Verb: pick("get", "get", "get", "put", "put", "purge"), Target: somePlaces()[r.Intn(len(somePlaces()))], Host: pick(append(names, "none.x")...)}
	if h.Verb == "put" {
		h.Body = pick("", "new", " ", strings.Repeat("b", 20))
	}
	for range r.Intn(6) {
		h.Fields = append(h.Fields, field(pick("accept", "accept", "if-none", "a"), pick("gz", "*", "BR;q=0", "plain;q=0", "zip", "")))
	}
	switch r.Intn(40) {
	case 0:
		h.Target = badPlaces()[r.Intn(len(badPlaces()))]
	case 1:
		h.Host = strings.ToUpper(h.Host)
	case 2:
		h.Body += "\n"
	case 3:
		h.Fields = append(h.Fields, field("host", h.Host))
	case 4:
		h.Verb = pick("", "GET", "head")
	}
	return h
}

func TestP32RequestsByChance(t *testing.T) {
	r := rand.New(rand.NewSource(32))
	gets, puts := 0, 0
	for range 2000 {
		c := chanceCfg(r)
		for range 20 {
			isGet, isPut := checkForward(t, c, chanceHead(r, c))
			if isGet {
				gets++
			}
			if isPut {
				puts++
			}
		}
	}
	if gets < 8000 || puts < 5000 {
		t.Fatalf("%d gets and %d puts prove little", gets, puts)
	}
}

// TestP32FormsOfOneRequest reads the same request in many forms from bytes: what is not part of the key does not change it.
func TestP32FormsOfOneRequest(t *testing.T) {
	r := rand.New(rand.NewSource(33))
	accepts := fieldsByMask()
	c := cfgOf(houseOf("two.x"), houseOf("one.x", "a", "twelve-bytes.x"))
	for range 20000 {
		want := impl.KeyKey{House: 1, Place: []string{"/", "/a/b-c", "/a%2Cb?q=%7C&~"}[r.Intn(3)], Mask: r.Intn(8)}
		a := asked{verb: "get", target: want.Place, host: c.Houses[1].Names[r.Intn(3)], mask: want.Mask}
		s := formOf(r, a, accepts[want.Mask][r.Intn(len(accepts[want.Mask]))])
		h, _, what := impl.HedRead(s)
		if got, ok := impl.KeyOf(c, h); got != want || !ok || what != impl.HedDone {
			t.Fatalf("of %q the key is %#v, %v and not %#v", s, got, ok, want)
		}
	}
}

func TestP33ForwardedGets(t *testing.T) {
	for _, c := range []struct {
		k    impl.KeyKey
		tag  string
		want string
	}{
		{impl.KeyKey{House: 0, Place: "/a", Mask: 5}, "t1", "get /a\nhost: one.x\naccept: plain, br\nif-none: t1\n\n"},
		{impl.KeyKey{House: 0, Place: "/a", Mask: 5}, "", "get /a\nhost: one.x\naccept: plain, br\n\n"},
		{impl.KeyKey{House: 1, Place: "/", Mask: 0}, "", "get /\nhost: twelve-bytes.seven-b\naccept: plain;q=0\n\n"},
		{impl.KeyKey{House: 1, Place: "/a?b=%2C", Mask: 6}, "twelve-bytes", "get /a?b=%2C\nhost: twelve-bytes.seven-b\naccept: plain;q=0, gz, br\nif-none: twelve-bytes\n\n"},
		{impl.KeyKey{House: 0, Place: "/", Mask: 1}, "-", "get /\nhost: one.x\naccept: plain\nif-none: -\n\n"},
		{impl.KeyKey{House: 2, Place: "/a", Mask: 5}, "t1", ""},
		{impl.KeyKey{House: 0, Place: "/a", Mask: 5}, "T1", ""},
	} {
		if got := impl.HedWrite(impl.KeyAsk(twoHouses(), c.k, c.tag)); got != c.want {
			t.Fatalf("HedWrite of KeyAsk(%#v, %q) is %q", c.k, c.tag, got)
		}
		checkKeyAsk(t, twoHouses(), c.k, c.tag)
	}
}

func TestP33EveryKey(t *testing.T) {
	for _, c := range goodCfgs() {
		for house, own := range c.Houses {
			for mask := range 8 {
				k := impl.KeyKey{House: house, Place: somePlaces()[mask], Mask: mask}
				for _, tag := range []string{"", "t1"} {
					h := impl.KeyAsk(c, k, tag)
					if key, ok := impl.KeyOf(c, h); key != k || !ok || h.Host != own.Names[0] || !impl.HedOk(h) {
						t.Fatalf("in %#v KeyAsk(%#v, %q) is %q, of which the key is %#v", c, k, tag, h, key)
					}
				}
				checkKey(t, c, k)
			}
		}
	}
	for _, place := range somePlaces() {
		for mask := range 8 {
			checkKey(t, twoHouses(), impl.KeyKey{House: 1, Place: place, Mask: mask})
		}
	}
}

func TestP33Tags(t *testing.T) {
	k := impl.KeyKey{House: 1, Place: "/a", Mask: 2}
	for b := range 256 {
		one := string([]byte{byte(b)})
		for _, tag := range []string{one, one + "a", "a" + one, "a" + one + "a", strings.Repeat(one, 12), strings.Repeat(one, 13)} {
			checkKeyAsk(t, twoHouses(), k, tag)
		}
	}
	for size := range 40 {
		tag := strings.Repeat("t", size)
		if got := impl.KeyAsk(twoHouses(), k, tag); (got.Verb == "get") != (size <= 12) {
			t.Fatalf("KeyAsk with the tag %q is %q", tag, got)
		}
		checkKeyAsk(t, twoHouses(), k, tag)
	}
	for _, tag := range append(oddStrings()[1:20], "T1", "t 1", "t1 ", " t1", "t1\n", "\"t1\"", "t_1", "t.1", "*", "t1\nhost: two.x", "thirteen-byte", "é") {
		if got := impl.KeyAsk(twoHouses(), k, tag); !sameHead(got, impl.HedHead{}) {
			t.Fatalf("KeyAsk with the tag %q is %q", tag, got)
		}
	}
}

func TestP33InvalidKeys(t *testing.T) {
	for _, k := range badKeys() {
		for _, tag := range []string{"", "t1", "T1"} {
			if got := impl.KeyAsk(twoHouses(), k, tag); !sameHead(got, impl.HedHead{}) {
				t.Fatalf("KeyAsk(%#v, %q) is %q", k, tag, got)
			}
		}
	}
	for _, c := range badCfgs() {
		if got := impl.KeyAsk(c, impl.KeyKey{House: 0, Place: "/a", Mask: 5}, ""); !sameHead(got, impl.HedHead{}) {
			t.Fatalf("KeyAsk(%#v, ..) is %q", c, got)
		}
	}
}

func TestP34ForwardedPuts(t *testing.T) {
	for _, c := range []struct {
		h    impl.HedHead
		want string
	}{
		{impl.HedHead{Verb: "put", Target: "/a", Host: "one.x", Body: "new"}, "put /a\nhost: one.x\nlength: 3\n\nnew"},
		{impl.HedHead{Verb: "put", Target: "/a", Host: "a", Body: "new"}, "put /a\nhost: one.x\nlength: 3\n\nnew"},
		{impl.HedHead{Verb: "put", Target: "/a?b=%2C", Host: "also.x"}, "put /a?b=%2C\nhost: twelve-bytes.seven-b\n\n"},
		{impl.HedHead{Verb: "put", Target: "/", Host: "80", Fields: []impl.FldField{accept("gz"), field("if-none", "t1"), field("cookie", "z")}, Body: " ~ "}, "put /\nhost: twelve-bytes.seven-b\nlength: 3\n\n ~ "},
		{impl.HedHead{Verb: "put", Target: "/", Host: "a", Fields: fieldsNamed(6, "v"), Body: strings.Repeat("b", 20)}, "put /\nhost: one.x\nlength: 20\n\n" + strings.Repeat("b", 20)},
	} {
		got, ok := impl.PutAsk(twoHouses(), c.h)
		if impl.HedWrite(got) != c.want || !ok || len(got.Fields) != 0 {
			t.Fatalf("PutAsk(%q) is %q, %v", c.h, got, ok)
		}
		checkForward(t, twoHouses(), c.h)
	}
}

func TestP34PutsAreUnchanged(t *testing.T) {
	puts := 0
	for _, h := range goodHeads() {
		for _, c := range []impl.CfgCfg{twoHouses(), cfgOf(houseOf("x", "80")), cfgOf(houseOf("x"), houseOf("y"), houseOf("z", "one.x", "a"))} {
			got, ok := impl.PutAsk(c, h)
			if ok != (h.Verb == "put" && wantRoute(c, h.Host) >= 0) {
				t.Fatalf("PutAsk(%#v, %q) is %q, %v", c, h, got, ok)
			}
			checkForward(t, c, h)
			if !ok {
				continue
			}
			puts++
			if !impl.HedOk(got) || got.Verb != "put" || got.Target != h.Target || got.Body != h.Body || len(got.Fields) != 0 || got.Host != c.Houses[wantRoute(c, h.Host)].Names[0] {
				t.Fatalf("PutAsk(%#v, %q) is %q", c, h, got)
			}
			if again, ok := impl.PutAsk(c, got); !ok || !sameHead(again, got) {
				t.Fatalf("PutAsk(%q) is %q, %v", got, again, ok)
			}
		}
	}
	if puts < 3000 {
		t.Fatalf("%d puts prove little", puts)
	}
}

func TestP34OtherNamesOfTheHouse(t *testing.T) {
	for _, c := range goodCfgs() {
		for _, own := range c.Houses {
			for _, name := range own.Names {
				h := impl.HedHead{Verb: "put", Target: "/a", Host: name, Fields: []impl.FldField{field("cookie", name)}, Body: "new"}
				got, ok := impl.PutAsk(c, h)
				if !ok || !sameHead(got, impl.HedHead{Verb: "put", Target: "/a", Host: own.Names[0], Body: "new"}) {
					t.Fatalf("PutAsk(%#v, %q) is %q, %v", c, h, got, ok)
				}
			}
		}
	}
}

func TestP34RequestsThatDoNotGoOn(t *testing.T) {
	put := impl.HedHead{Verb: "put", Target: "/a", Host: "one.x", Body: "new"}
	bad := append(badHeads(), getOf("one.x"), impl.HedHead{Verb: "purge", Target: "/a", Host: "one.x"})
	for _, verb := range []string{"get", "purge", "PUT", "Put", "post", "put ", ""} {
		h := put
		h.Verb = verb
		bad = append(bad, h)
	}
	for _, host := range []string{"two.x", "one", "ONE.x", "one.x:80", "A", "", "none", "one.x\n"} {
		h := put
		h.Host = host
		bad = append(bad, h)
	}
	for _, h := range bad {
		if got, ok := impl.PutAsk(twoHouses(), h); ok || !sameHead(got, impl.HedHead{}) {
			t.Fatalf("PutAsk(%q) is %q, %v", h, got, ok)
		}
		checkForward(t, twoHouses(), h)
	}
	for _, c := range badCfgs() {
		names, _ := namesIn(c)
		for _, name := range append(names, "one.x") {
			h := put
			h.Host = name
			if got, ok := impl.PutAsk(c, h); ok || !sameHead(got, impl.HedHead{}) {
				t.Fatalf("PutAsk(%#v, %q) is %q, %v", c, h, got, ok)
			}
		}
	}
}

// apart fails if two strings lie in the same memory.
func apart(t *testing.T, a, b string) {
	t.Helper()
	if a == "" || b == "" {
		return
	}
	startA, startB := uintptr(unsafe.Pointer(unsafe.StringData(a))), uintptr(unsafe.Pointer(unsafe.StringData(b)))
	if startA < startB+uintptr(len(b)) && startB < startA+uintptr(len(a)) {
		t.Fatalf("%q shares memory with %q", a, b)
	}
}

func TestP33ResultsAreNew(t *testing.T) {
	c, k, tag := twoHouses(), impl.KeyKey{House: 1, Place: "/a", Mask: 6}, "t1"
	first := impl.KeyAsk(c, k, tag)
	apart(t, first.Target, k.Place)
	apart(t, first.Host, c.Houses[1].Names[0])
	apart(t, first.Fields[1].Value, tag)
	fields := first.Fields[:cap(first.Fields)]
	for at := range fields {
		fields[at] = field("written", "w")
	}
	if !reflect.DeepEqual(c, twoHouses()) {
		t.Fatalf("%#v", c)
	}
	checkKeyAsk(t, c, k, tag)
	key, _ := impl.KeyOf(c, getOf("a", accept("gz")))
	if text := impl.KeyText(key); text != "0 3 /a" {
		t.Fatal(text)
	}
}

func TestP31ResultsAreNew(t *testing.T) {
	s, h := "1 5 /a?b", getOf("one.x")
	k, ok := impl.KeyRead(twoHouses(), s)
	if !ok || k.Place != "/a?b" {
		t.Fatalf("%#v, %v", k, ok)
	}
	apart(t, k.Place, s)
	apart(t, impl.KeyText(k), k.Place)
	k, _ = impl.KeyOf(twoHouses(), h)
	apart(t, k.Place, h.Target)
}

func TestP34ResultsAreNew(t *testing.T) {
	whole := fieldsNamed(6, "v")
	c, h := twoHouses(), impl.HedHead{Verb: "put", Target: "/a", Host: "a", Fields: whole[:2], Body: "new"}
	got, ok := impl.PutAsk(c, h)
	if !ok {
		t.Fatal("the put is for a house")
	}
	apart(t, got.Target, h.Target)
	apart(t, got.Body, h.Body)
	apart(t, got.Host, c.Houses[0].Names[0])
	_ = append(got.Fields, field("written", "w"), field("written", "w"), field("written", "w"))
	if !slices.Equal(whole, fieldsNamed(6, "v")) || !reflect.DeepEqual(c, twoHouses()) {
		t.Fatalf("%q, %#v", whole, c)
	}
}

// TestP70DifferentKeys writes down for every text, and for every request that goes on, the key that it belongs to.
func TestP70DifferentKeys(t *testing.T) {
	places := map[string]bool{}
	for _, s := range append(goodTargets()[:3000], somePlaces()...) {
		places[canonOf(t, s)] = true
	}
	for _, c := range []impl.CfgCfg{twoHouses(), housesOf(4, 3), cfgOf(houseOf("b", "a"), houseOf("c", "d"))} {
		texts, requests := map[string]impl.KeyKey{}, map[string]impl.KeyKey{}
		note := func(all map[string]impl.KeyKey, s string, k impl.KeyKey) {
			if other, found := all[s]; s == "" || found && other != k {
				t.Fatalf("%q is of %#v and of %#v", s, k, other)
			}
			all[s] = k
		}
		for place := range places {
			for n := range 8 * len(c.Houses) {
				k := impl.KeyKey{House: n / 8, Place: place, Mask: n % 8}
				note(texts, impl.KeyText(k), k)
				note(requests, impl.HedWrite(impl.KeyAsk(c, k, "")), k)
				if n%8 == 5 {
					note(requests, impl.HedWrite(impl.KeyAsk(c, k, "t1")), k)
				}
			}
		}
		if want := len(places) * len(c.Houses); len(texts) != 8*want || len(requests) != 9*want || want < 1000 {
			t.Fatalf("%d texts and %d requests of %d keys", len(texts), len(requests), 8*want)
		}
	}
}

// TestP70OneDifference compares keys that differ in one part alone, or in parts that look alike next to each other.
func TestP70OneDifference(t *testing.T) {
	c := housesOf(4, 1)
	k := impl.KeyKey{House: 1, Place: "/1", Mask: 1}
	for _, other := range []impl.KeyKey{
		{House: 0, Place: "/1", Mask: 1}, {House: 2, Place: "/1", Mask: 1}, {House: 1, Place: "/1", Mask: 0}, {House: 1, Place: "/1", Mask: 3}, {House: 1, Place: "/1", Mask: 2},
		{House: 1, Place: "/", Mask: 1}, {House: 1, Place: "/1/", Mask: 1}, {House: 1, Place: "/1?", Mask: 1}, {House: 1, Place: "/11", Mask: 1}, {House: 1, Place: "/1%20", Mask: 1},
	} {
		if impl.KeyText(k) == impl.KeyText(other) || sameHead(impl.KeyAsk(c, k, ""), impl.KeyAsk(c, other, "")) || sameHead(impl.KeyAsk(c, k, "t"), impl.KeyAsk(c, other, "t")) {
			t.Fatalf("%#v is taken for %#v", other, k)
		}
	}
}

// moreFields returns fields of any name but accept, host, length and transfer.
func moreFields() []impl.FldField {
	return []impl.FldField{
		field("cookie", "z"), field("if-none", "t1"), field("accept-", "gz"), field("accepts", "*"), field("accep", "*;q=0"), field("hosts", "also.x"), field("length2", "1"), field("transfers", "x"),
		field("target", "/b"), field("verb", "put"), field("a", ""), field("f0", "~~"), field("twelve-bytes", strings.Repeat("v", 30)), field("accept-coding", "br"), field("Accept", "br"), field("a", " v"), field("", "v"),
	}
}

func TestP82AdditionalFields(t *testing.T) {
	c := twoHouses()
	same, none := 0, 0
	for _, h := range goodHeads() {
		want, ok := impl.KeyOf(c, h)
		if !ok {
			continue
		}
		for _, more := range moreFields() {
			for at := range len(h.Fields) + 1 {
				longer := h
				longer.Fields = slices.Insert(slices.Clone(h.Fields), at, more)
				got, ok := impl.KeyOf(c, longer)
				if impl.HedOk(longer) {
					same++
				} else {
					none++
				}
				if ok != impl.HedOk(longer) || ok && got != want || !ok && got != (impl.KeyKey{}) {
					t.Fatalf("KeyOf(%q) is %#v, %v and not %#v", longer, got, ok, want)
				}
			}
		}
	}
	if same < 5000 || none < 1000 {
		t.Fatalf("%d requests with one more field, and %d that are none, prove little", same, none)
	}
}

// TestP82FieldsUntilItIsNoRequest adds fields one by one, to a request for every set.
func TestP82FieldsUntilItIsNoRequest(t *testing.T) {
	for mask, value := range setTexts {
		h := getOf("also.x", accept(value))
		want := impl.KeyKey{House: 1, Place: "/a", Mask: mask}
		for n := range 10 {
			got, ok := impl.KeyOf(twoHouses(), h)
			if n < 6 && (got != want || !ok) || n >= 6 && (got != impl.KeyKey{} || ok) {
				t.Fatalf("KeyOf(%q) is %#v, %v", h, got, ok)
			}
			checkForward(t, twoHouses(), h)
			h.Fields = slices.Insert(slices.Clone(h.Fields), n%2, field("f"+strconv.Itoa(n), "gz"))
		}
	}
}
