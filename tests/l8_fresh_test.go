package tests

import (
	"fmt"
	"math"
	"math/rand"
	"regexp"
	"slices"
	"strings"
	"testing"

	"loop.example/godown/impl"
)

var (
	rspNumbers = regexp.MustCompile(`^[1-5][0-9]{2} (-1|0|[1-9][0-9]{0,5}) [012]$`)
	rspTexts   = regexp.MustCompile(`^[a-z0-9-]{0,12}\n[ -~]{0,20}$`)
)

// codingsOfSets holds the codings of every set.
var codingsOfSets = [8][]int{{}, {0}, {1}, {0, 1}, {2}, {0, 2}, {1, 2}, {0, 1, 2}}

func TestConstantsOfResponses(t *testing.T) {
	if got := []int{impl.RspDone, impl.RspSame, impl.RspAbsent}; !slices.Equal(got, []int{200, 304, 404}) {
		t.Fatal(got)
	}
}

// wantRsp states RspOk by another means than the program's.
func wantRsp(r impl.RspRsp) bool {
	return rspNumbers.MatchString(fmt.Sprint(r.Code, r.Max, r.Coding)) && rspTexts.MatchString(r.Tag+"\n"+r.Body)
}

// wantStored states FrsKeep by another means than the program's.
func wantStored(r impl.RspRsp, mask int) bool {
	if !wantRsp(r) || r.Hide || r.Max < 1 || mask < 0 || mask > 7 {
		return false
	}
	return slices.Contains([]int{200, 404}, r.Code) && slices.Contains(codingsOfSets[mask], r.Coding)
}

func isTime(n int) bool {
	return uint(n) < 1000000
}

// wantAge states FrsAge by another means than the program's.
func wantAge(at, now int) int {
	if !isTime(at) || !isTime(now) {
		return 0
	}
	return max(now-at, 0)
}

// wantFresh states FrsFresh by another means than the program's: by the end of the lifetime.
func wantFresh(r impl.RspRsp, at, now int) bool {
	return wantRsp(r) && isTime(at) && isTime(now) && now >= at && now < at+r.Max
}

// wantMerge states FrsMerge by another means than the program's.
func wantMerge(old, r impl.RspRsp) (impl.RspRsp, bool) {
	if !wantRsp(old) || !wantRsp(r) || r.Code != 304 || r.Tag == "" || old.Tag != r.Tag {
		return impl.RspRsp{}, false
	}
	return impl.RspRsp{Code: old.Code, Max: r.Max, Hide: r.Hide, Tag: old.Tag, Coding: old.Coding, Body: old.Body}, true
}

// wantRspText states RspText by another means than the program's.
func wantRspText(r impl.RspRsp, age int) []string {
	if !wantRsp(r) || !isTime(age) {
		return nil
	}
	all := []string{fmt.Sprintf("code %d coding %s age %d", r.Code, []string{"plain", "gz", "br"}[r.Coding], age), "tag " + r.Tag, "body " + r.Body}
	return slices.DeleteFunc(all, func(line string) bool { return line == "tag " || line == "body " })
}

func checkAge(t *testing.T, at, now int) {
	t.Helper()
	if got := impl.FrsAge(at, now); got != wantAge(at, now) {
		t.Fatalf("FrsAge(%d, %d) is %d and not %d", at, now, got, wantAge(at, now))
	}
}

func checkFresh(t *testing.T, r impl.RspRsp, at, now int) bool {
	t.Helper()
	checkAge(t, at, now)
	got := impl.FrsFresh(r, at, now)
	if got != wantFresh(r, at, now) {
		t.Fatalf("FrsFresh(%#v, %d, %d) is %v", r, at, now, got)
	}
	return got
}

func checkMerge(t *testing.T, old, r impl.RspRsp) bool {
	t.Helper()
	got, ok := impl.FrsMerge(old, r)
	want, wantOk := wantMerge(old, r)
	if got != want || ok != wantOk {
		t.Fatalf("FrsMerge(%#v, %#v) is %#v, %v and not %#v, %v", old, r, got, ok, want, wantOk)
	}
	if ok && !impl.RspOk(got) {
		t.Fatalf("FrsMerge(%#v, %#v) is %#v", old, r, got)
	}
	return ok
}

func checkRspText(t *testing.T, r impl.RspRsp, age int) []string {
	t.Helper()
	got := impl.RspText(r, age)
	if !slices.Equal(got, wantRspText(r, age)) {
		t.Fatalf("RspText(%#v, %d) is %q and not %q", r, age, got, wantRspText(r, age))
	}
	return got
}

// checkRsp holds all functions of a response to what the document says of them.
func checkRsp(t *testing.T, r impl.RspRsp) bool {
	t.Helper()
	ok := impl.RspOk(r)
	if ok != wantRsp(r) {
		t.Fatalf("RspOk(%#v) is %v", r, ok)
	}
	for mask := -2; mask < 10; mask++ {
		if got := impl.FrsKeep(r, mask); got != wantStored(r, mask) {
			t.Fatalf("FrsKeep(%#v, %d) is %v", r, mask, got)
		}
	}
	for _, now := range []int{5, 6, 7, 999999} {
		checkFresh(t, r, 5, now)
	}
	checkMerge(t, r, impl.RspRsp{Code: 304, Max: 9, Tag: r.Tag})
	checkMerge(t, impl.RspRsp{Code: 200, Max: 9, Hide: true, Tag: r.Tag, Coding: 2, Body: "old"}, r)
	for _, age := range []int{-1, 0, 7, 999999, 1000000} {
		checkRspText(t, r, age)
	}
	return ok
}

// wholeRsp returns a response that may be stored for all sets with br.
func wholeRsp() impl.RspRsp {
	return impl.RspRsp{Code: 200, Max: 3, Tag: "t1", Coding: 2, Body: "hello"}
}

// goodRsps returns valid responses of all kinds, with the smallest and the greatest of everything.
func goodRsps() []impl.RspRsp {
	var good []impl.RspRsp
	for _, code := range []int{100, 199, 200, 204, 304, 399, 400, 404, 599} {
		for _, most := range []int{-1, 0, 1, 2, 10, 999999} {
			for coding := range 3 {
				for _, tag := range []string{"", "t1", "-", "twelve-bytes"} {
					for _, body := range []string{"", " ", "hello", "~ twenty bytes long "} {
						for _, hide := range []bool{false, true} {
							good = append(good, impl.RspRsp{Code: code, Max: most, Hide: hide, Tag: tag, Coding: coding, Body: body})
						}
					}
				}
			}
		}
	}
	return good
}

func badTags() []string {
	return append(oddStrings()[1:20], "T1", "t 1", "t1 ", " t1", "t1\n", "\"t1\"", "t_1", "t.1", "*", "thirteen-byte", "é", strings.Repeat("t", 1000))
}

func badBodies() []string {
	return []string{strings.Repeat("b", 21), strings.Repeat(" ", 21), strings.Repeat("b", 1000), "\n", "a\n", "\r", "\t", "\x00", "\x1f", "\x7f", "\x80", "é", "a\x00b", "\xff", "a\nb", strings.Repeat("b", 19) + "\n"}
}

// badRsps returns responses that are invalid for one reason each.
func badRsps() []impl.RspRsp {
	var bad []impl.RspRsp
	spoil := func(change func(r *impl.RspRsp)) {
		r := wholeRsp()
		change(&r)
		bad = append(bad, r)
	}
	for _, code := range []int{99, 600, 0, 1, -1, -100, -200, -599, 1000, 2000, 65536 + 200, 1<<32 + 200, math.MinInt, math.MaxInt, math.MinInt + 200} {
		spoil(func(r *impl.RspRsp) { r.Code = code })
	}
	for _, most := range []int{-2, -3, -999999, 1000000, 1000001, 1<<32 + 3, -1 << 32, math.MinInt, math.MaxInt} {
		spoil(func(r *impl.RspRsp) { r.Max = most })
	}
	for _, tag := range badTags() {
		spoil(func(r *impl.RspRsp) { r.Tag = tag })
	}
	for _, coding := range []int{-1, -2, 3, 4, 5, 8, 64, 1 << 32, -1 << 32, math.MinInt, math.MaxInt} {
		spoil(func(r *impl.RspRsp) { r.Coding = coding })
	}
	for _, body := range badBodies() {
		spoil(func(r *impl.RspRsp) { r.Body = body })
	}
	return append(bad, impl.RspRsp{}, impl.RspRsp{Code: 200, Max: -2, Hide: true})
}

// oddTimes returns times within the limits and around them, and numbers far from any.
func oddTimes() []int {
	return []int{0, 1, 2, 5, 6, 999, 999997, 999998, 999999, 1000000, 1000001, -1, -2, -5, -999999, 1 << 32, -1 << 32, math.MinInt, math.MinInt + 1, math.MaxInt - 1, math.MaxInt}
}

func TestP37ValidResponses(t *testing.T) {
	for _, r := range goodRsps() {
		if !checkRsp(t, r) {
			t.Fatalf("%#v is valid", r)
		}
	}
	for _, r := range badRsps() {
		if checkRsp(t, r) {
			t.Fatalf("%#v is invalid", r)
		}
		for _, hide := range []bool{false, true} {
			r.Hide = hide
			if impl.RspOk(r) {
				t.Fatalf("%#v is invalid", r)
			}
		}
	}
}

func TestP37EveryCode(t *testing.T) {
	for code := -700; code < 1100; code++ {
		r := wholeRsp()
		r.Code = code
		if checkRsp(t, r) != (code >= 100 && code <= 599) {
			t.Fatalf("RspOk(%#v) is %v", r, impl.RspOk(r))
		}
		if impl.FrsKeep(r, 4) != (code == 200 || code == 404) {
			t.Fatalf("FrsKeep(%#v, 4) is %v", r, impl.FrsKeep(r, 4))
		}
	}
}

func TestP37EveryByte(t *testing.T) {
	for b := range 256 {
		one := string([]byte{byte(b)})
		for _, s := range []string{one, one + "a", "a" + one, "a" + one + "a", strings.Repeat(one, 12), strings.Repeat(one, 13), strings.Repeat(one, 20), strings.Repeat(one, 21)} {
			r := wholeRsp()
			r.Tag = s
			checkRsp(t, r)
			r = wholeRsp()
			r.Body = s
			checkRsp(t, r)
		}
	}
	for size := range 50 {
		r := impl.RspRsp{Code: 200, Max: 1, Tag: strings.Repeat("t", size)}
		if checkRsp(t, r) != (size <= 12) {
			t.Fatalf("RspOk(%#v) is %v", r, impl.RspOk(r))
		}
		r = impl.RspRsp{Code: 200, Max: 1, Body: strings.Repeat("b", size)}
		if checkRsp(t, r) != (size <= 20) {
			t.Fatalf("RspOk(%#v) is %v", r, impl.RspOk(r))
		}
	}
}

func TestP37WhatMayBeStored(t *testing.T) {
	for _, c := range []struct {
		r    impl.RspRsp
		mask int
		want bool
	}{
		{impl.RspRsp{Code: 200, Max: 1}, 1, true},
		{impl.RspRsp{Code: 404, Max: 1}, 1, true},
		{impl.RspRsp{Code: 200, Max: 999999, Tag: "t1", Body: "hello"}, 1, true},
		{impl.RspRsp{Code: 200, Max: 1, Coding: 1}, 2, true},
		{impl.RspRsp{Code: 200, Max: 1, Coding: 2}, 4, true},
		{impl.RspRsp{Code: 200, Max: 1, Coding: 2}, 7, true},
		{impl.RspRsp{Code: 200, Max: 0}, 1, false},
		{impl.RspRsp{Code: 200, Max: -1}, 1, false},
		{impl.RspRsp{Code: 200, Max: 1, Hide: true}, 1, false},
		{impl.RspRsp{Code: 304, Max: 1}, 1, false},
		{impl.RspRsp{Code: 204, Max: 1}, 1, false},
		{impl.RspRsp{Code: 201, Max: 1}, 1, false},
		{impl.RspRsp{Code: 199, Max: 1}, 1, false},
		{impl.RspRsp{Code: 403, Max: 1}, 1, false},
		{impl.RspRsp{Code: 405, Max: 1}, 1, false},
		{impl.RspRsp{Code: 502, Max: 1}, 1, false},
		{impl.RspRsp{Code: 200, Max: 1}, 0, false},
		{impl.RspRsp{Code: 200, Max: 1}, 2, false},
		{impl.RspRsp{Code: 200, Max: 1}, 6, false},
		{impl.RspRsp{Code: 200, Max: 1}, 9, false},
		{impl.RspRsp{Code: 200, Max: 1}, 8, false},
		{impl.RspRsp{Code: 200, Max: 1}, -1, false},
		{impl.RspRsp{Code: 200, Max: 1, Coding: 1}, 1, false},
		{impl.RspRsp{Code: 200, Max: 1, Coding: 1}, 5, false},
		{impl.RspRsp{Code: 200, Max: 1, Coding: 2}, 3, false},
		{impl.RspRsp{Code: 200, Max: 1, Coding: 3}, 7, false},
		{impl.RspRsp{Code: 200, Max: 1, Coding: -1}, 7, false},
		{impl.RspRsp{Code: 200, Max: 1000000}, 1, false},
		{impl.RspRsp{Code: 200, Max: 1, Tag: "T"}, 1, false},
		{impl.RspRsp{Code: 200, Max: 1, Body: "\n"}, 1, false},
		{impl.RspRsp{}, 1, false},
	} {
		if got := impl.FrsKeep(c.r, c.mask); got != c.want {
			t.Fatalf("FrsKeep(%#v, %d) is %v", c.r, c.mask, got)
		}
	}
}

func TestP37LargerSets(t *testing.T) {
	stored := 0
	for _, r := range goodRsps() {
		for mask := range 8 {
			if !impl.FrsKeep(r, mask) {
				continue
			}
			stored++
			if r.Code != 200 && r.Code != 404 || r.Max <= 0 || r.Hide || !impl.CodIn(mask, r.Coding) {
				t.Fatalf("FrsKeep(%#v, %d) is true", r, mask)
			}
			for more := range 8 {
				if !impl.FrsKeep(r, mask|more) {
					t.Fatalf("FrsKeep(%#v, ..) is true for %d and false for %d", r, mask, mask|more)
				}
			}
		}
		for _, mask := range notSets() {
			if impl.FrsKeep(r, mask) {
				t.Fatalf("FrsKeep(%#v, %d) is true", r, mask)
			}
		}
		r.Hide = true
		if impl.FrsKeep(r, 7) {
			t.Fatalf("%#v is hidden", r)
		}
	}
	if stored < 1000 {
		t.Fatalf("%d stored responses prove little", stored)
	}
}

func TestP36Ages(t *testing.T) {
	for _, c := range []struct{ at, now, want int }{
		{0, 0, 0}, {5, 5, 0}, {5, 6, 1}, {5, 7, 2}, {0, 999999, 999999}, {999999, 999999, 0}, {999998, 999999, 1}, {1, 999999, 999998},
		{5, 4, 0}, {1, 0, 0}, {999999, 0, 0}, {-1, 0, 0}, {-1, 5, 0}, {-5, -1, 0}, {-1, -1, 0}, {0, 1000000, 0}, {999999, 1000000, 0}, {1000000, 1000000, 0}, {1000000, 1000001, 0},
		{math.MinInt, math.MaxInt, 0}, {math.MinInt, 0, 0}, {0, math.MaxInt, 0}, {math.MaxInt, math.MinInt, 0},
	} {
		if got := impl.FrsAge(c.at, c.now); got != c.want {
			t.Fatalf("FrsAge(%d, %d) is %d", c.at, c.now, got)
		}
	}
	for _, at := range oddTimes() {
		for _, now := range oddTimes() {
			checkAge(t, at, now)
		}
	}
}

func TestP36OneMoreWithEachTick(t *testing.T) {
	for _, at := range []int{0, 1, 77, 500000, 999990, 999999} {
		for n := range 1000 {
			want := n
			if at+n > 999999 {
				want = 0
			}
			if got := impl.FrsAge(at, at+n); got != want {
				t.Fatalf("FrsAge(%d, %d) is %d", at, at+n, got)
			}
			if got := impl.FrsAge(at+n, at); got != 0 {
				t.Fatalf("FrsAge(%d, %d) is %d", at+n, at, got)
			}
		}
	}
}

func TestP35FreshUntilTheEnd(t *testing.T) {
	r := wholeRsp()
	for _, c := range []struct {
		most, at, now int
		want          bool
	}{
		{3, 5, 5, true}, {3, 5, 6, true}, {3, 5, 7, true}, {3, 5, 8, false}, {3, 5, 9, false}, {3, 5, 4, false}, {3, 5, 0, false},
		{1, 5, 5, true}, {1, 5, 6, false}, {0, 5, 5, false}, {-1, 5, 5, false}, {-1, 5, 4, false}, {0, 0, 0, false}, {1, 0, 0, true},
		{999999, 0, 999998, true}, {999999, 0, 999999, false}, {999999, 1, 999999, true}, {999999, 999999, 999999, true}, {1, 999999, 999999, true},
		{3, 999999, 1000000, false}, {3, 1000000, 1000000, false}, {3, -1, 0, false}, {3, -1, -1, false}, {3, -1, 1, false}, {999999, 0, 1000000, false},
		{3, math.MinInt, math.MaxInt, false}, {3, math.MaxInt, math.MaxInt, false}, {-2, 5, 5, false}, {1000000, 5, 5, false}, {1000000, 0, 999999, false},
	} {
		r.Max = c.most
		if got := impl.FrsFresh(r, c.at, c.now); got != c.want {
			t.Fatalf("with Max %d FrsFresh(.., %d, %d) is %v", c.most, c.at, c.now, got)
		}
		checkFresh(t, r, c.at, c.now)
	}
}

// TestP35OtherParts says that nothing but the lifetime and the times decides on a valid response.
func TestP35OtherParts(t *testing.T) {
	for _, r := range goodRsps() {
		for _, d := range []int{-1, 0, 1, r.Max - 1, r.Max, r.Max + 1} {
			if got := checkFresh(t, r, 7, 7+d); got != (d >= 0 && d < r.Max && 7+d <= 999999) {
				t.Fatalf("FrsFresh(%#v, 7, %d) is %v", r, 7+d, got)
			}
		}
	}
	for _, r := range badRsps() {
		for _, now := range []int{5, 6, 7, 8} {
			if checkFresh(t, r, 5, now) {
				t.Fatalf("%#v is invalid, and fresh at %d", r, now)
			}
		}
	}
}

func TestP35OddTimes(t *testing.T) {
	for _, most := range []int{-1, 0, 1, 2, 3, 1000, 999998, 999999} {
		r := wholeRsp()
		r.Max = most
		for _, at := range oddTimes() {
			for _, now := range oddTimes() {
				checkFresh(t, r, at, now)
			}
		}
	}
}

// checkNoGaps says that the times at which a response is fresh are all from At on, up to one of them, and no other ones.
func checkNoGaps(t *testing.T, r impl.RspRsp, at, from, to int) int {
	t.Helper()
	var fresh []int
	for now := from; now < to; now++ {
		if checkFresh(t, r, at, now) {
			fresh = append(fresh, now)
		}
	}
	for n, now := range fresh {
		if now != max(at, from)+n {
			t.Fatalf("%#v of %d is fresh at %v", r, at, fresh)
		}
	}
	return len(fresh)
}

func TestP81NoGaps(t *testing.T) {
	for most := -1; most < 12; most++ {
		for at := range 12 {
			r := wholeRsp()
			r.Max = most
			if got := checkNoGaps(t, r, at, -3, 30); got != max(most, 0) {
				t.Fatalf("%#v of %d is fresh %d times", r, at, got)
			}
		}
	}
	for _, r := range append(goodRsps()[:500], badRsps()...) {
		checkNoGaps(t, r, 3, 0, 20)
	}
}

func TestP81NoGapsAtTheLimits(t *testing.T) {
	r := wholeRsp()
	for _, c := range []struct{ most, at, from, want int }{
		{999999, 0, -3, 12}, {999999, 0, 999990, 9}, {999999, 1, 999990, 10}, {10, 999991, 999988, 9}, {3, 999995, 999988, 3}, {5, 999997, 999990, 3}, {1, 999999, 999990, 1},
		{3, 1000000, 999990, 0}, {3, -1, -5, 0}, {-1, 0, -3, 0}, {0, 999999, 999990, 0}, {999999, -1, -5, 0},
	} {
		r.Max = c.most
		if got := checkNoGaps(t, r, c.at, c.from, c.from+15); got != c.want {
			t.Fatalf("%#v of %d is fresh %d times from %d on", r, c.at, got, c.from)
		}
	}
}

// TestP81AllTimes goes through all times once, with a lifetime that ends in the midst of them.
func TestP81AllTimes(t *testing.T) {
	r := wholeRsp()
	r.Max = 500000
	if got := checkNoGaps(t, r, 250000, 0, 1000002); got != 500000 {
		t.Fatalf("fresh %d times", got)
	}
}

func TestP38Merges(t *testing.T) {
	old := impl.RspRsp{Code: 200, Max: 3, Tag: "t1", Coding: 1, Body: "hello"}
	for _, c := range []struct{ r, want impl.RspRsp }{
		{impl.RspRsp{Code: 304, Max: 9, Tag: "t1"}, impl.RspRsp{Code: 200, Max: 9, Tag: "t1", Coding: 1, Body: "hello"}},
		{impl.RspRsp{Code: 304, Max: 9, Hide: true, Tag: "t1"}, impl.RspRsp{Code: 200, Max: 9, Hide: true, Tag: "t1", Coding: 1, Body: "hello"}},
		{impl.RspRsp{Code: 304, Max: -1, Tag: "t1", Coding: 2, Body: "other"}, impl.RspRsp{Code: 200, Max: -1, Tag: "t1", Coding: 1, Body: "hello"}},
		{impl.RspRsp{Code: 304, Max: 0, Tag: "t1"}, impl.RspRsp{Code: 200, Max: 0, Tag: "t1", Coding: 1, Body: "hello"}},
		{impl.RspRsp{Code: 304, Max: 999999, Tag: "t1"}, impl.RspRsp{Code: 200, Max: 999999, Tag: "t1", Coding: 1, Body: "hello"}},
	} {
		if got, ok := impl.FrsMerge(old, c.r); got != c.want || !ok {
			t.Fatalf("FrsMerge(%#v, %#v) is %#v, %v", old, c.r, got, ok)
		}
		checkMerge(t, old, c.r)
	}
	hidden := impl.RspRsp{Code: 404, Max: 5, Hide: true, Tag: "t1"}
	want := impl.RspRsp{Code: 404, Max: 9, Tag: "t1"}
	if got, ok := impl.FrsMerge(hidden, impl.RspRsp{Code: 304, Max: 9, Tag: "t1", Coding: 2, Body: "b"}); got != want || !ok {
		t.Fatalf("%#v, %v", got, ok)
	}
}

func TestP38WhatIsNoRevalidation(t *testing.T) {
	old := wholeRsp()
	refused := func(old, r impl.RspRsp) {
		t.Helper()
		if got, ok := impl.FrsMerge(old, r); ok || got != (impl.RspRsp{}) {
			t.Fatalf("FrsMerge(%#v, %#v) is %#v, %v", old, r, got, ok)
		}
		checkMerge(t, old, r)
	}
	for _, tag := range append(badTags(), "", "t2", "t", "t11", "1t", "-", "twelve-bytes") {
		refused(old, impl.RspRsp{Code: 304, Max: 9, Tag: tag})
		spoilt := old
		spoilt.Tag = tag
		refused(spoilt, impl.RspRsp{Code: 304, Max: 9, Tag: "t1"})
	}
	for code := -10; code < 1000; code++ {
		if code != 304 {
			refused(old, impl.RspRsp{Code: code, Max: 9, Tag: "t1"})
		}
	}
	old.Tag = ""
	refused(old, impl.RspRsp{Code: 304, Max: 9})
	refused(impl.RspRsp{}, impl.RspRsp{})
	for _, bad := range badRsps() {
		refused(bad, impl.RspRsp{Code: 304, Max: 9, Tag: bad.Tag})
		refused(bad, impl.RspRsp{Code: 304, Max: 9, Tag: "t1"})
		bad.Code = 304
		if !impl.RspOk(bad) {
			refused(wholeRsp(), bad)
			old.Tag = bad.Tag
			refused(old, bad)
		}
	}
}

func TestP38AllPairs(t *testing.T) {
	good := goodRsps()
	merged, refused := 0, 0
	for at, old := range good {
		for n := at % 37; n < len(good); n += 37 {
			if checkMerge(t, old, good[n]) {
				merged++
			} else {
				refused++
			}
		}
		for _, most := range []int{-1, 0, 1, 999999} {
			for _, hide := range []bool{false, true} {
				r := impl.RspRsp{Code: 304, Max: most, Hide: hide, Tag: old.Tag, Coding: 2, Body: "other"}
				got, ok := impl.FrsMerge(old, r)
				old.Max, old.Hide = most, hide
				if ok != (old.Tag != "") || ok && got != old {
					t.Fatalf("FrsMerge(%#v, %#v) is %#v, %v", old, r, got, ok)
				}
			}
		}
	}
	if merged < 10000 || refused < 100000 {
		t.Fatalf("%d merged and %d refused prove little", merged, refused)
	}
}

func TestP39Lines(t *testing.T) {
	for _, c := range []struct {
		r    impl.RspRsp
		age  int
		want []string
	}{
		{impl.RspRsp{Code: 200, Max: 3, Tag: "t1", Body: "hello"}, 2, []string{"code 200 coding plain age 2", "tag t1", "body hello"}},
		{impl.RspRsp{Code: 204, Max: -1}, 0, []string{"code 204 coding plain age 0"}},
		{impl.RspRsp{Code: 304, Max: 3, Hide: true, Tag: "-", Coding: 1}, 999999, []string{"code 304 coding gz age 999999", "tag -"}},
		{impl.RspRsp{Code: 100, Max: 999999, Coding: 2, Body: " "}, 10, []string{"code 100 coding br age 10", "body  "}},
		{impl.RspRsp{Code: 599, Body: "body tag -> ~ 012345"}, 1, []string{"code 599 coding plain age 1", "body body tag -> ~ 012345"}},
		{impl.RspRsp{Code: 200, Max: 3}, -1, nil},
		{impl.RspRsp{Code: 200, Max: 3}, 1000000, nil},
		{impl.RspRsp{Code: 200, Max: 3}, math.MinInt, nil},
		{impl.RspRsp{Code: 200, Max: 3}, math.MaxInt, nil},
		{impl.RspRsp{Code: 99, Max: 3}, 0, nil},
		{impl.RspRsp{}, 0, nil},
	} {
		if got := impl.RspText(c.r, c.age); !slices.Equal(got, c.want) {
			t.Fatalf("RspText(%#v, %d) is %q", c.r, c.age, got)
		}
		checkRspText(t, c.r, c.age)
	}
}

func TestP39OneLineEach(t *testing.T) {
	for _, r := range goodRsps() {
		for _, age := range []int{0, 1, 9, 10, 100, 999998, 999999} {
			want := 1
			if r.Tag != "" {
				want++
			}
			if r.Body != "" {
				want++
			}
			if got := checkRspText(t, r, age); len(got) != want {
				t.Fatalf("RspText(%#v, %d) is %q", r, age, got)
			}
		}
		for _, age := range oddTimes() {
			checkRspText(t, r, age)
		}
	}
	for _, r := range badRsps() {
		for _, age := range oddTimes() {
			if got := checkRspText(t, r, age); got != nil {
				t.Fatalf("RspText(%#v, %d) is %q", r, age, got)
			}
		}
	}
}

// chanceRsp puts a response together by chance, valid more often than not.
func chanceRsp(r *rand.Rand) impl.RspRsp {
	pick := func(all ...string) string { return all[r.Intn(len(all))] }
	number := func(all ...int) int { return all[r.Intn(len(all))] }
	rsp := impl.RspRsp{
		Code: number(200, 200, 200, 304, 304, 404, 100+r.Intn(500)), Max: number(-1, 0, 1, 2, r.Intn(20), r.Intn(1000000)), Hide: r.Intn(4) == 0,
		Tag: pick("", "t1", "t1", "t2", "twelve-bytes"), Coding: r.Intn(3), Body: pick("", "hello", " ", strings.Repeat("b", r.Intn(21))),
	}
	switch r.Intn(30) {
	case 0:
		rsp.Code = number(0, 99, 600, r.Intn(2000)-1000)
	case 1:
		rsp.Max = number(-2, 1000000, r.Int(), -r.Int())
	case 2:
		rsp.Tag = badTags()[r.Intn(len(badTags()))]
	case 3:
		rsp.Coding = number(-1, 3, r.Int())
	case 4:
		rsp.Body = badBodies()[r.Intn(len(badBodies()))]
	}
	return rsp
}

func TestP38ResponsesByChance(t *testing.T) {
	r := rand.New(rand.NewSource(38))
	merged, fresh, bad := 0, 0, 0
	for range 50000 {
		old, rsp := chanceRsp(r), chanceRsp(r)
		if !checkRsp(t, rsp) {
			bad++
		}
		if checkMerge(t, old, rsp) {
			merged++
		}
		at := r.Intn(1000000)
		if checkFresh(t, rsp, at, at+r.Intn(20)-3) {
			fresh++
		}
	}
	if merged < 2000 || fresh < 5000 || bad < 3000 {
		t.Fatalf("%d merged, %d fresh and %d bad responses prove little", merged, fresh, bad)
	}
}

func TestP38ResultsAreNew(t *testing.T) {
	old, r := wholeRsp(), impl.RspRsp{Code: 304, Max: 9, Tag: "t1", Body: "other"}
	got, ok := impl.FrsMerge(old, r)
	if !ok || got.Max != 9 {
		t.Fatalf("%#v, %v", got, ok)
	}
	apart(t, got.Tag, old.Tag)
	apart(t, got.Tag, r.Tag)
	apart(t, got.Body, old.Body)
	again, _ := impl.FrsMerge(old, r)
	apart(t, got.Tag, again.Tag)
	apart(t, got.Body, again.Body)
}

func TestP39ResultsAreNew(t *testing.T) {
	r := wholeRsp()
	first := impl.RspText(r, 2)
	apart(t, first[1], r.Tag)
	apart(t, first[2], r.Body)
	second := impl.RspText(r, 2)
	whole := first[:cap(first)]
	for at := range whole {
		whole[at] = "written"
	}
	if !slices.Equal(second, wantRspText(r, 2)) {
		t.Fatalf("%q", second)
	}
	checkRspText(t, r, 2)
}
