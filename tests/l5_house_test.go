package tests

import (
	"math"
	"math/rand"
	"reflect"
	"regexp"
	"slices"
	"strconv"
	"strings"
	"testing"

	"loop.example/godown/impl"
)

var nameForm = regexp.MustCompile(`^[a-z0-9-]{1,12}(\.[a-z0-9-]{1,12})*$`)

func TestConstantsOfHouses(t *testing.T) {
	got := []int{impl.CfgMost, impl.CfgNames, impl.CfgMaxN, impl.CfgMaxB, impl.CfgMaxK}
	if !slices.Equal(got, []int{4, 3, 6, 120, 9999}) {
		t.Fatal(got)
	}
}

// namesIn returns all names of a configuration, and beside each the index of its house.
func namesIn(c impl.CfgCfg) (names []string, houses []int) {
	for at, h := range c.Houses {
		for _, name := range h.Names {
			names = append(names, name)
			houses = append(houses, at)
		}
	}
	return names, houses
}

// wantCfg states CfgOk by another means than the program's.
func wantCfg(c impl.CfgCfg) bool {
	for _, h := range c.Houses {
		sizes := len(h.Names) != 0 && len(h.Names) < 4 && h.Key > 0 && h.Key < 10000
		if !sizes || h.MaxN <= 0 || h.MaxN > 6 || h.MaxB <= 0 || h.MaxB > 120 {
			return false
		}
	}
	names, _ := namesIn(c)
	for _, name := range names {
		if !nameForm.MatchString(name) || len(name) > 20 {
			return false
		}
	}
	slices.Sort(names)
	return len(c.Houses) != 0 && len(c.Houses) < 5 && len(slices.Compact(slices.Clone(names))) == len(names)
}

func wantRoute(c impl.CfgCfg, host string) int {
	names, houses := namesIn(c)
	at := slices.Index(names, host)
	if at < 0 || !wantCfg(c) {
		return -1
	}
	return houses[at]
}

// formsOf returns other forms of a name, and what is only like it: none of them is the name.
func formsOf(name string) []string {
	forms := []string{
		name + ":80", name + ":80:80", name + ":81", name + ":", name + ".", "." + name, " " + name, name + " ", name + "\n", name + "\x00",
		"http://" + name, name + "/", name + "." + name, strings.Repeat(name, 20),
	}
	if upper := strings.ToUpper(name); upper != name {
		forms = append(forms, upper, upper+":80")
	}
	if name != "" {
		forms = append(forms, name[1:], name[:len(name)-1])
	}
	return forms
}

func checkRoute(t *testing.T, c impl.CfgCfg, host string) {
	t.Helper()
	if got, want := impl.CfgRoute(c, host), wantRoute(c, host); got != want {
		t.Fatalf("CfgRoute(%#v, %q) is %d and not %d", c, host, got, want)
	}
}

func copyOfCfg(c impl.CfgCfg) impl.CfgCfg {
	houses := slices.Clone(c.Houses)
	for at := range houses {
		houses[at].Names = slices.Clone(houses[at].Names)
	}
	return impl.CfgCfg{Houses: houses}
}

func checkAlone(t *testing.T, c impl.CfgCfg, k int) {
	t.Helper()
	got := impl.CfgAlone(c, k)
	if !wantCfg(c) || k < 0 || k >= len(c.Houses) {
		if len(got.Houses) != 0 {
			t.Fatalf("CfgAlone(%#v, %d) is %#v", c, k, got)
		}
		return
	}
	if !reflect.DeepEqual(got.Houses, c.Houses[k:k+1]) || !impl.CfgOk(got) {
		t.Fatalf("CfgAlone(%#v, %d) is %#v", c, k, got)
	}
	names, houses := namesIn(c)
	for at, name := range names {
		want := -1
		if houses[at] == k {
			want = 0
		}
		if impl.CfgRoute(got, name) != want {
			t.Fatalf("%q of house %d leads to %d in CfgAlone(%#v, %d)", name, houses[at], impl.CfgRoute(got, name), c, k)
		}
	}
}

// checkLess takes the last house away, which may also make a valid configuration of an invalid one.
func checkLess(t *testing.T, c impl.CfgCfg) {
	t.Helper()
	last := len(c.Houses) - 1
	if last < 0 {
		return
	}
	less := impl.CfgCfg{Houses: c.Houses[:last]}
	if impl.CfgOk(less) != wantCfg(less) || wantCfg(c) && impl.CfgOk(less) != (last > 0) {
		t.Fatalf("CfgOk(%#v) is %v", less, impl.CfgOk(less))
	}
	names, houses := namesIn(c)
	for at, name := range names {
		checkRoute(t, less, name)
		if got := impl.CfgRoute(less, name); wantCfg(c) && (houses[at] == last) != (got == -1) {
			t.Fatalf("%q leads to %d in %#v", name, got, less)
		}
	}
}

// checkCfg holds all functions of a configuration to what the document says of them.
func checkCfg(t *testing.T, c impl.CfgCfg) bool {
	t.Helper()
	before := copyOfCfg(c)
	ok := impl.CfgOk(c)
	if ok != wantCfg(c) {
		t.Fatalf("CfgOk(%#v) is %v", c, ok)
	}
	names, _ := namesIn(c)
	for _, name := range append(names, oddStrings()...) {
		checkRoute(t, c, name)
	}
	for _, name := range names {
		for _, form := range formsOf(name) {
			checkRoute(t, c, form)
		}
	}
	for _, k := range []int{math.MinInt, -2, -1, 0, 1, 2, 3, 4, 5, len(c.Houses), math.MaxInt} {
		checkAlone(t, c, k)
	}
	checkLess(t, c)
	if !reflect.DeepEqual(c, before) {
		t.Fatalf("%#v has become %#v", before, c)
	}
	return ok
}

func cfgOf(houses ...impl.CfgHouse) impl.CfgCfg {
	return impl.CfgCfg{Houses: houses}
}

func houseOf(names ...string) impl.CfgHouse {
	return impl.CfgHouse{Names: names, Key: 77, MaxN: 3, MaxB: 60}
}

// housesOf returns a configuration with so many houses, each with so many names, all of them valid beside the counts.
func housesOf(houses int, names int) impl.CfgCfg {
	var c impl.CfgCfg
	for at := range houses {
		h := impl.CfgHouse{Key: 1 + at, MaxN: 1 + at%6, MaxB: 120 - at}
		for n := range names {
			h.Names = append(h.Names, strings.Repeat("a", n+1)+"."+strconv.Itoa(at))
		}
		c.Houses = append(c.Houses, h)
	}
	return c
}

// goodCfgs returns valid configurations of all sizes.
func goodCfgs() []impl.CfgCfg {
	good := []impl.CfgCfg{
		cfgOf(houseOf("one.x", "also.x"), houseOf("two.x")),
		cfgOf(houseOf("two.x"), houseOf("one.x", "also.x")),
		cfgOf(houseOf("a"), houseOf("a.a"), houseOf("a.a.a"), houseOf("aa")),
		cfgOf(houseOf("-", "0", "80"), houseOf("127.0.0.1", "a.80", "twelve-bytes")),
		cfgOf(houseOf("twelve-bytes.seven-b", "twelve-bytes.seven", "a.b.c.d.e.f.g.h.i.jk")),
	}
	for houses := 1; houses <= 4; houses++ {
		for names := 1; names <= 3; names++ {
			good = append(good, housesOf(houses, names))
		}
	}
	for _, key := range []int{1, 2, 77, 9998, 9999} {
		for _, n := range []int{1, 2, 5, 6} {
			for _, b := range []int{1, 2, 119, 120} {
				h := impl.CfgHouse{Names: []string{"one.x"}, Key: key, MaxN: n, MaxB: b}
				good = append(good, cfgOf(h), cfgOf(houseOf("two.x"), h))
			}
		}
	}
	return good
}

// badNames returns what is no name of a house: no hosts, and hosts that are not in their canonical form.
func badNames() []string {
	return append(oddStrings()[:20],
		"One.x", "one.X", "ONE", "one.x:80", "one:80", "80:80", ":80", "one.x:81", "one.x:80:80", "one.x.", ".one.x", "one..x", ".", "one_x", "one x", "http://one.x", "one.x/", "one+also", "*", "*.x",
		"thirteen-byte", "thirteen-byte.x", "x.thirteen-byte", "twelve-bytes.eight-by", "a.b.c.d.e.f.g.h.i.jkl", "twelve-bytes.seven-b:80", strings.Repeat("a", 20), strings.Repeat("a.", 1000)+"a",
	)
}

// badCfgs returns configurations that are invalid for one reason each.
func badCfgs() []impl.CfgCfg {
	bad := []impl.CfgCfg{
		{}, {Houses: []impl.CfgHouse{}}, cfgOf(impl.CfgHouse{}), cfgOf(houseOf()), cfgOf(houseOf("one.x"), houseOf()), cfgOf(houseOf(), houseOf("one.x")),
		cfgOf(houseOf("one.x", "one.x")), cfgOf(houseOf("one.x", "also.x", "one.x")), cfgOf(houseOf("two.x"), houseOf("one.x", "also.x", "also.x")),
		cfgOf(houseOf("one.x"), houseOf("one.x")), cfgOf(houseOf("one.x", "also.x"), houseOf("two.x", "also.x")), cfgOf(houseOf("one.x"), houseOf("two.x"), houseOf("one.x")),
		cfgOf(houseOf("one.x"), houseOf("two.x"), houseOf("three.x"), houseOf("four.x", "three.x")), cfgOf(houseOf("a", "b", "c"), houseOf("d", "e", "a")),
		housesOf(5, 1), housesOf(5, 3), housesOf(6, 2), housesOf(1, 4), housesOf(2, 4), housesOf(4, 5), housesOf(1000, 1), housesOf(1, 1000),
	}
	for _, name := range badNames() {
		bad = append(bad, cfgOf(houseOf(name)), cfgOf(houseOf("one.x", name)), cfgOf(houseOf("two.x"), houseOf("one.x", "also.x", name)), cfgOf(houseOf(name), houseOf("two.x")))
	}
	for _, n := range []int{0, -1, -2, 10000, 10001, math.MinInt, math.MaxInt} {
		bad = append(bad, cfgWith(impl.CfgHouse{Key: n, MaxN: 3, MaxB: 60})...)
	}
	for _, n := range []int{0, -1, -6, 7, 8, math.MinInt, math.MaxInt} {
		bad = append(bad, cfgWith(impl.CfgHouse{Key: 77, MaxN: n, MaxB: 60})...)
	}
	for _, n := range []int{0, -1, -120, 121, 122, math.MinInt, math.MaxInt} {
		bad = append(bad, cfgWith(impl.CfgHouse{Key: 77, MaxN: 3, MaxB: n})...)
	}
	return bad
}

// cfgWith returns configurations with a house, given a name, in every place.
func cfgWith(h impl.CfgHouse) []impl.CfgCfg {
	h.Names = []string{"one.x"}
	two, three := houseOf("two.x"), houseOf("three.x")
	return []impl.CfgCfg{cfgOf(h), cfgOf(h, two, three), cfgOf(two, h, three), cfgOf(two, three, h)}
}

func TestP24EveryNameLeadsToItsHouse(t *testing.T) {
	for _, c := range goodCfgs() {
		if !checkCfg(t, c) {
			t.Fatalf("%#v is valid", c)
		}
		for at, h := range c.Houses {
			for _, name := range h.Names {
				if got := impl.CfgRoute(c, name); got != at {
					t.Fatalf("CfgRoute(%#v, %q) is %d", c, name, got)
				}
			}
		}
	}
}

func TestP24OtherHostsLeadNowhere(t *testing.T) {
	c := cfgOf(houseOf("one.x", "also.x"), houseOf("two.x"))
	for _, host := range append(oddStrings(), "one", "x", "one.", ".x", "one.x.x", "one.xx", "oone.x", "three.x", "ONE.x", "one.X", "one.x:80", "ONE.X:80", " one.x", "one.x ", "one.x\n", "http://one.x", "one.x/", "one.x+also.x", "*") {
		if got := impl.CfgRoute(c, host); got != -1 {
			t.Fatalf("CfgRoute of %q is %d", host, got)
		}
	}
}

func TestP24InvalidConfigurations(t *testing.T) {
	for _, c := range badCfgs() {
		if checkCfg(t, c) {
			t.Fatalf("%#v is invalid", c)
		}
		names, _ := namesIn(c)
		for _, name := range append(names, "one.x") {
			if got := impl.CfgRoute(c, name); got != -1 {
				t.Fatalf("CfgRoute(%#v, %q) is %d", c, name, got)
			}
		}
	}
}

func TestP24EveryByteOfAName(t *testing.T) {
	for b := range 256 {
		for _, name := range []string{string([]byte{byte(b)}), "a" + string([]byte{byte(b)}), string([]byte{byte(b)}) + "a", "a" + string([]byte{byte(b)}) + "a"} {
			checkCfg(t, cfgOf(houseOf(name)))
			checkCfg(t, cfgOf(houseOf("a.x", name), houseOf("b.x")))
			checkCfg(t, cfgOf(houseOf("a.x"), houseOf("b.x", name)))
		}
	}
}

func TestP24LengthsOfNames(t *testing.T) {
	for size := range 30 {
		name := strings.Repeat("a", size)
		if got := checkCfg(t, cfgOf(houseOf(name))); got != (size >= 1 && size <= 12) {
			t.Fatalf("with %q CfgOk is %v", name, got)
		}
		if got := checkCfg(t, cfgOf(houseOf("one.x"), houseOf("two.x", "twelve-bytes."+name))); got != (size >= 1 && size <= 7) {
			t.Fatalf("with %d bytes behind another part CfgOk is %v", size, got)
		}
	}
}

func TestP24CountsOfHousesAndNames(t *testing.T) {
	for houses := range 8 {
		for names := range 6 {
			want := houses >= 1 && houses <= 4 && names >= 1 && names <= 3
			if got := checkCfg(t, housesOf(houses, names)); got != want {
				t.Fatalf("with %d houses of %d names CfgOk is %v", houses, names, got)
			}
		}
	}
}

func TestP24EveryLimit(t *testing.T) {
	for n := -3; n < 10010; n++ {
		h := houseOf("one.x")
		h.Key = n
		if got := impl.CfgOk(cfgOf(houseOf("two.x"), h)); got != (n >= 1 && n <= 9999) {
			t.Fatalf("with the key %d CfgOk is %v", n, got)
		}
	}
	for n := -130; n < 260; n++ {
		h := houseOf("one.x")
		h.MaxN = n
		if got := checkCfg(t, cfgOf(h, houseOf("two.x"))); got != (n >= 1 && n <= 6) {
			t.Fatalf("with %d answers CfgOk is %v", n, got)
		}
		h.MaxN, h.MaxB = 3, n
		if got := checkCfg(t, cfgOf(h, houseOf("two.x"))); got != (n >= 1 && n <= 120) {
			t.Fatalf("with %d bytes CfgOk is %v", n, got)
		}
	}
}

// TestP24AllShortConfigurations goes through all of up to three houses with up to three names out of two, or of four and two houses.
func TestP24AllShortConfigurations(t *testing.T) {
	for _, all := range []struct {
		names  []string
		houses int
	}{{[]string{"a", "b"}, 3}, {[]string{"a", "b", "c", "A"}, 2}} {
		cfgs := []impl.CfgCfg{{}}
		for range all.houses {
			var next []impl.CfgCfg
			for _, c := range cfgs {
				for _, names := range listsOf(all.names, 3) {
					next = append(next, cfgOf(append(slices.Clone(c.Houses), houseOf(names...))...))
				}
			}
			cfgs = next
			for _, c := range cfgs {
				if impl.CfgOk(c) != wantCfg(c) {
					t.Fatalf("CfgOk(%#v) is %v", c, impl.CfgOk(c))
				}
				for _, name := range all.names {
					checkRoute(t, c, name)
				}
				checkAlone(t, c, len(c.Houses)-1)
				checkLess(t, c)
			}
		}
	}
}

// chanceCfg puts a configuration together by chance, valid more often than not.
func chanceCfg(r *rand.Rand) impl.CfgCfg {
	names := []string{"one.x", "also.x", "two.x", "a", "b", "c", "d", "e", "f", "g", "h", "one", "x", "twelve-bytes", "a.b.c", "127.0.0.1"}
	r.Shuffle(len(names), func(i, j int) { names[i], names[j] = names[j], names[i] })
	if r.Intn(8) == 0 {
		names[r.Intn(6)] = badNames()[r.Intn(len(badNames()))]
	}
	if r.Intn(4) == 0 {
		names[r.Intn(6)] = names[r.Intn(6)]
	}
	var c impl.CfgCfg
	for range 1 + r.Intn(4) {
		n := 1 + r.Intn(3)
		h := impl.CfgHouse{Names: names[:n:n], Key: 1 + r.Intn(9999), MaxN: 1 + r.Intn(6), MaxB: 1 + r.Intn(120)}
		names = names[n:]
		c.Houses = append(c.Houses, h)
	}
	return c
}

func TestP24ChanceConfigurations(t *testing.T) {
	r := rand.New(rand.NewSource(24))
	good := 0
	for range 4000 {
		if checkCfg(t, chanceCfg(r)) {
			good++
		}
	}
	if good < 1000 || good > 3900 {
		t.Fatalf("%d of 4000 are valid", good)
	}
}

func TestP25EveryHouseAlone(t *testing.T) {
	for _, c := range goodCfgs() {
		for k, h := range c.Houses {
			alone := impl.CfgAlone(c, k)
			if !impl.CfgOk(alone) || len(alone.Houses) != 1 || !reflect.DeepEqual(alone.Houses[0], h) {
				t.Fatalf("CfgAlone(%#v, %d) is %#v", c, k, alone)
			}
			checkAlone(t, alone, 0)
			checkAlone(t, alone, 1)
			checkAlone(t, alone, k)
			checkAlone(t, c, k)
		}
	}
}

func TestP25NoSuchHouse(t *testing.T) {
	for _, c := range goodCfgs() {
		n := len(c.Houses)
		for _, k := range []int{-1, -2, -n, -n - 1, n, n + 1, 2 * n, 1000, -1 << 32, 1 << 32, math.MinInt, math.MaxInt} {
			if got := impl.CfgAlone(c, k); len(got.Houses) != 0 {
				t.Fatalf("CfgAlone(%#v, %d) is %#v", c, k, got)
			}
		}
	}
}

func TestP25OfInvalidConfigurations(t *testing.T) {
	for _, c := range badCfgs() {
		for k := -1; k <= 5; k++ {
			if got := impl.CfgAlone(c, k); len(got.Houses) != 0 {
				t.Fatalf("CfgAlone(%#v, %d) is %#v", c, k, got)
			}
		}
	}
}

func TestP25ResultsAreNew(t *testing.T) {
	for _, c := range goodCfgs() {
		before := copyOfCfg(c)
		for k := range c.Houses {
			one, other := impl.CfgAlone(c, k), impl.CfgAlone(c, k)
			names := one.Houses[0].Names
			for at := range names[:cap(names)] {
				names[:cap(names)][at] = "written"
			}
			one.Houses = append(one.Houses, houseOf("more"))
			one.Houses[0].Key = 0
			if !reflect.DeepEqual(c, before) || !reflect.DeepEqual(other.Houses, before.Houses[k:k+1]) {
				t.Fatalf("after a result was written to, %#v is %#v", before, c)
			}
		}
	}
}

func TestP83OneHouseLess(t *testing.T) {
	for _, c := range goodCfgs() {
		names, houses := namesIn(c)
		last := len(c.Houses) - 1
		less := impl.CfgCfg{Houses: c.Houses[:last]}
		if impl.CfgOk(less) != (last > 0) {
			t.Fatalf("CfgOk(%#v) is %v", less, impl.CfgOk(less))
		}
		for at, name := range names {
			want := impl.CfgRoute(c, name)
			if houses[at] == last {
				want = -1
			}
			if got := impl.CfgRoute(less, name); got != want {
				t.Fatalf("CfgRoute(%#v, %q) is %d and not %d", less, name, got, want)
			}
		}
		for _, name := range oddStrings() {
			checkRoute(t, less, name)
		}
	}
}

// TestP83OneHouseLessByChance also takes houses away whose removal makes a configuration valid.
func TestP83OneHouseLessByChance(t *testing.T) {
	r := rand.New(rand.NewSource(83))
	for range 4000 {
		for c := chanceCfg(r); len(c.Houses) > 0; c.Houses = c.Houses[:len(c.Houses)-1] {
			checkLess(t, c)
		}
	}
	for c := housesOf(6, 3); len(c.Houses) > 0; c.Houses = c.Houses[:len(c.Houses)-1] {
		checkLess(t, c)
	}
}
