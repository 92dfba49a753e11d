package tests

import (
	"math"
	"math/rand"
	"slices"
	"strings"
	"testing"

	"loop.example/godown/impl"
)

// wantHouse states that an origin is valid by another means than the program's; here a name may stand twice.
func wantHouse(h impl.CfgHouse) bool {
	named := slices.DeleteFunc(slices.Clone(h.Names), func(name string) bool { return nameForm.MatchString(name) && len(name) <= 20 })
	within := func(n, most int) bool { return n == min(max(n, 1), most) }
	return len(named) == 0 && within(len(h.Names), 3) && within(h.Key, 9999) && within(h.MaxN, 6) && within(h.MaxB, 120)
}

func wantSize(list ...impl.StoEntry) int {
	all := ""
	for _, e := range list {
		all += e.Place + e.Rsp.Tag + e.Rsp.Body
	}
	return len(all)
}

func wantEntry(e impl.StoEntry) bool {
	canon, ok := wantCanon(e.Place)
	return ok && canon == e.Place && wantStored(e.Rsp, e.Mask) && isTime(e.At)
}

func sameEntry(place string, mask int) func(e impl.StoEntry) bool {
	return func(e impl.StoEntry) bool { return e.Place == place && e.Mask == mask }
}

// wantRoom says whether entries are within the limits of an origin.
func wantRoom(h impl.CfgHouse, list []impl.StoEntry) bool {
	return len(list) <= h.MaxN && wantSize(list...) <= h.MaxB
}

// wantStore states StoOk by another means than the program's: every entry is held against all behind it.
func wantStore(h impl.CfgHouse, s impl.StoStore) bool {
	if !wantHouse(h) || !wantRoom(h, s.Entries) {
		return false
	}
	for at, e := range s.Entries {
		if !wantEntry(e) || slices.ContainsFunc(s.Entries[at+1:], sameEntry(e.Place, e.Mask)) {
			return false
		}
	}
	return true
}

func wantUse(s impl.StoStore, at int) []impl.StoEntry {
	if at < 0 || at >= len(s.Entries) {
		return s.Entries
	}
	return slices.Concat(s.Entries[at:at+1], s.Entries[:at], s.Entries[at+1:])
}

func wantOut(s impl.StoStore, place string, mask int) []impl.StoEntry {
	at := slices.IndexFunc(s.Entries, sameEntry(place, mask))
	if at < 0 {
		return s.Entries
	}
	return slices.Concat(s.Entries[:at], s.Entries[at+1:])
}

// wantPut states StoPut by another means than the program's: by the longest beginning that has room.
func wantPut(h impl.CfgHouse, s impl.StoStore, e impl.StoEntry) []impl.StoEntry {
	if !wantStore(h, s) || !wantEntry(e) {
		return nil
	}
	list := wantOut(s, e.Place, e.Mask)
	if wantSize(e) > h.MaxB {
		return list
	}
	list = slices.Concat([]impl.StoEntry{e}, list)
	for !wantRoom(h, list) {
		list = list[:len(list)-1]
	}
	return list
}

func wantDrop(s impl.StoStore, path string, under bool) (stay []impl.StoEntry) {
	for _, e := range s.Entries {
		at := strings.Split(e.Place, "?")[0] == path
		if !at && !(under && wantUnder(path, e.Place)) {
			stay = append(stay, e)
		}
	}
	return stay
}

func copyOfStore(s impl.StoStore) impl.StoStore {
	return impl.StoStore{Entries: slices.Clone(s.Entries)}
}

func sameStore(a, b impl.StoStore) bool {
	return slices.Equal(a.Entries, b.Entries)
}

func checkUse(t *testing.T, s impl.StoStore, at int) impl.StoStore {
	t.Helper()
	got := impl.StoUse(s, at)
	if !slices.Equal(got.Entries, wantUse(s, at)) {
		t.Fatalf("StoUse(%#v, %d) is %#v", s, at, got)
	}
	return got
}

func checkOut(t *testing.T, s impl.StoStore, place string, mask int) impl.StoStore {
	t.Helper()
	want := slices.IndexFunc(s.Entries, sameEntry(place, mask))
	if got := impl.StoFind(s, place, mask); got != want {
		t.Fatalf("StoFind(%#v, %q, %d) is %d and not %d", s, place, mask, got, want)
	}
	got := impl.StoOut(s, place, mask)
	if !slices.Equal(got.Entries, wantOut(s, place, mask)) {
		t.Fatalf("StoOut(%#v, %q, %d) is %#v", s, place, mask, got)
	}
	return got
}

func checkDrop(t *testing.T, s impl.StoStore, path string, under bool) int {
	t.Helper()
	before := copyOfStore(s)
	got, count := impl.StoDrop(s, path, under)
	want := wantDrop(s, path, under)
	if !slices.Equal(got.Entries, want) || count != len(s.Entries)-len(want) {
		t.Fatalf("StoDrop(%#v, %q, %v) is %#v, %d", s, path, under, got, count)
	}
	for _, e := range got.Entries {
		if impl.UriPath(e.Place) == path || under && impl.UriUnder(path, e.Place) {
			t.Fatalf("StoDrop(%#v, %q, %v) is %#v", s, path, under, got)
		}
	}
	if again, none := impl.StoDrop(got, path, under); !sameStore(again, got) || none != 0 {
		t.Fatalf("StoDrop(%#v, %q, %v) is %#v, %d", got, path, under, again, none)
	}
	if !sameStore(s, before) {
		t.Fatalf("%#v has become %#v", before, s)
	}
	return count
}

// checkPut holds StoPut to what the document says of it, and says whether its arguments are valid.
func checkPut(t *testing.T, h impl.CfgHouse, s impl.StoStore, e impl.StoEntry) bool {
	t.Helper()
	before := copyOfStore(s)
	got := impl.StoPut(h, s, e)
	if !slices.Equal(got.Entries, wantPut(h, s, e)) {
		t.Fatalf("StoPut(%#v, %#v, %#v) is %#v and not %#v", h, s, e, got, wantPut(h, s, e))
	}
	if !sameStore(s, before) {
		t.Fatalf("%#v has become %#v", before, s)
	}
	if !wantStore(h, s) || !wantEntry(e) {
		return false
	}
	if !impl.StoOk(h, got) {
		t.Fatalf("StoPut(%#v, %#v, %#v) is %#v", h, s, e, got)
	}
	if again := impl.StoPut(h, got, e); !sameStore(again, got) {
		t.Fatalf("StoPut(%#v, %#v, %#v) is %#v", h, got, e, again)
	}
	checkOrder(t, h, impl.StoOut(s, e.Place, e.Mask), got, e)
	return true
}

// checkOrder says of what StoPut has made of entries without the new one: that one is first, and the others are the first of those that were there.
func checkOrder(t *testing.T, h impl.CfgHouse, others, got impl.StoStore, e impl.StoEntry) {
	t.Helper()
	fits := impl.StoSize(e) <= h.MaxB
	stay := got.Entries
	if fits {
		if len(stay) == 0 || stay[0] != e {
			t.Fatalf("%#v is not first in %#v", e, got)
		}
		stay = stay[1:]
	}
	if len(stay) > len(others.Entries) || !slices.Equal(stay, others.Entries[:len(stay)]) {
		t.Fatalf("%#v has become %#v", others, got)
	}
	if (!fits || wantRoom(h, append([]impl.StoEntry{e}, others.Entries...))) && len(stay) != len(others.Entries) {
		t.Fatalf("%#v has become %#v, though there was room", others, got)
	}
}

// checkStore holds all functions of storage but StoPut and StoDrop to what the document says of them.
func checkStore(t *testing.T, h impl.CfgHouse, s impl.StoStore) bool {
	t.Helper()
	before := copyOfStore(s)
	ok := impl.StoOk(h, s)
	if ok != wantStore(h, s) {
		t.Fatalf("StoOk(%#v, %#v) is %v", h, s, ok)
	}
	if impl.StoBytes(s) != wantSize(s.Entries...) {
		t.Fatalf("StoBytes(%#v) is %d", s, impl.StoBytes(s))
	}
	for _, at := range []int{-1, len(s.Entries), len(s.Entries) + 1, math.MinInt, math.MaxInt} {
		checkUse(t, s, at)
	}
	for at, e := range s.Entries {
		if impl.StoSize(e) != wantSize(e) {
			t.Fatalf("StoSize(%#v) is %d", e, impl.StoSize(e))
		}
		used, out := checkUse(t, s, at), checkOut(t, s, e.Place, e.Mask)
		checkOut(t, s, e.Place, e.Mask+1)
		checkOut(t, s, e.Place+"/", e.Mask)
		if ok {
			checkPart(t, h, s, at, used, out)
		}
	}
	checkOut(t, s, "", 0)
	checkOut(t, s, "/none", 1)
	if !sameStore(s, before) {
		t.Fatalf("%#v has become %#v", before, s)
	}
	return ok
}

// checkPart says of valid storage what holds for one of its entries, with that one first, and without it.
func checkPart(t *testing.T, h impl.CfgHouse, s impl.StoStore, at int, used, out impl.StoStore) {
	t.Helper()
	e := s.Entries[at]
	if !impl.StoOk(h, impl.StoStore{Entries: s.Entries[:at]}) || !impl.StoOk(h, used) || !impl.StoOk(h, out) {
		t.Fatalf("a part of %#v, or %#v, or %#v is invalid for %#v", s, used, out, h)
	}
	if impl.StoFind(s, e.Place, e.Mask) != at || impl.StoFind(used, e.Place, e.Mask) != 0 || impl.StoFind(out, e.Place, e.Mask) != -1 {
		t.Fatalf("%#v is not found in %#v or %#v, or is in %#v", e, s, used, out)
	}
	if got := impl.StoPut(h, out, e); !sameStore(got, used) {
		t.Fatalf("StoPut(%#v, %#v, %#v) is %#v and not %#v", h, out, e, got, used)
	}
	if got := impl.StoUse(used, 0); !sameStore(got, used) {
		t.Fatalf("StoUse(%#v, 0) is %#v", used, got)
	}
	if got := impl.StoPut(h, used, e); !sameStore(got, used) {
		t.Fatalf("StoPut(%#v, %#v, %#v) is %#v", h, used, e, got)
	}
}

// limits returns an origin that keeps so many entries and bytes.
func limits(n, b int) impl.CfgHouse {
	return impl.CfgHouse{Names: []string{"one.x"}, Key: 77, MaxN: n, MaxB: b}
}

// entry returns a valid entry with a body.
func entry(place string, mask int, body string) impl.StoEntry {
	return impl.StoEntry{Place: place, Mask: mask, Rsp: impl.RspRsp{Code: 200, Max: 5, Coding: codingsOfSets[mask][0], Body: body}, At: 3}
}

// sized returns a valid entry that counts for so many bytes, at least 2 and at most 72.
func sized(place string, size int) impl.StoEntry {
	e := entry(place, 1, "")
	more := size - len(place)
	body, tag := min(more, 20), min(max(more-20, 0), 12)
	e.Rsp.Body, e.Rsp.Tag = strings.Repeat("b", body), strings.Repeat("t", tag)
	e.Place += strings.Repeat("p", more-body-tag)
	return e
}

func storeWith(list ...impl.StoEntry) impl.StoStore {
	return impl.StoStore{Entries: list}
}

// sixEntries are all valid, no two of them with the same place and codings, and count for 60 bytes.
func sixEntries() []impl.StoEntry {
	return []impl.StoEntry{sized("/a", 10), sized("/b", 10), sized("/c/d", 10), sized("/c/d?e", 10), entry("/a", 2, "gz-bytes"), entry("/b", 7, "any-byte")}
}

// placesIn returns the places of entries, which is how the tables name them.
func placesIn(s impl.StoStore) string {
	var places []string
	for _, e := range s.Entries {
		places = append(places, e.Place)
	}
	return strings.Join(places, " ")
}

// badEntries returns entries that are invalid for one reason each.
func badEntries() []impl.StoEntry {
	var bad []impl.StoEntry
	spoil := func(change func(e *impl.StoEntry)) {
		e := entry("/a", 1, "hello")
		change(&e)
		bad = append(bad, e)
	}
	for _, place := range badPlaces() {
		spoil(func(e *impl.StoEntry) { e.Place = place })
	}
	for _, mask := range append(notSets(), 0, 2, 4, 6) {
		spoil(func(e *impl.StoEntry) { e.Mask = mask })
	}
	for _, at := range []int{-1, -2, -999999, 1000000, 1000001, 1 << 32, -1 << 32, math.MinInt, math.MaxInt} {
		spoil(func(e *impl.StoEntry) { e.At = at })
	}
	for _, r := range badRsps() {
		spoil(func(e *impl.StoEntry) { e.Rsp, e.Mask = r, 7 })
	}
	for _, code := range []int{100, 199, 201, 204, 304, 403, 405, 502, 599} {
		spoil(func(e *impl.StoEntry) { e.Rsp.Code = code })
	}
	spoil(func(e *impl.StoEntry) { e.Rsp.Max = 0 })
	spoil(func(e *impl.StoEntry) { e.Rsp.Max = -1 })
	spoil(func(e *impl.StoEntry) { e.Rsp.Hide = true })
	spoil(func(e *impl.StoEntry) { e.Rsp.Coding = 1 })
	return append(bad, impl.StoEntry{})
}

// badHouses returns origins that are invalid for one reason each.
func badHouses() []impl.CfgHouse {
	bad := []impl.CfgHouse{{}, houseOf(), houseOf("a", "b", "c", "d")}
	for _, name := range badNames() {
		bad = append(bad, houseOf(name), houseOf("one.x", name))
	}
	for _, n := range []int{0, -1, math.MinInt, math.MaxInt} {
		bad = append(bad, limits(n, 60), limits(3, n))
	}
	for _, key := range []int{0, -1, 10000, math.MinInt, math.MaxInt} {
		h := limits(3, 60)
		h.Key = key
		bad = append(bad, h)
	}
	return append(bad, limits(7, 60), limits(3, 121))
}

// anyStores returns storage that is valid and that is not, with entries once, twice and more often.
func anyStores() []impl.StoStore {
	all := []impl.StoStore{{}, {Entries: []impl.StoEntry{}}, storeWith(sixEntries()...), storeWith(append(sixEntries(), sixEntries()...)...)}
	kinds := []impl.StoEntry{sized("/a", 2), entry("/a", 1, "new"), entry("/a", 2, ""), sized("/a?b", 4), sized("/a/b", 4), {Place: "no place", Mask: -1, At: -1}}
	for _, list := range listsOf(kinds, 4) {
		all = append(all, storeWith(list...))
	}
	for _, e := range badEntries() {
		all = append(all, storeWith(e), storeWith(e, e), storeWith(entry("/x", 1, ""), e), storeWith(e, entry("/x", 1, ""), e))
	}
	return all
}

func TestP71ValidStorage(t *testing.T) {
	for n := 1; n <= 6; n++ {
		for count := range 7 {
			s := storeWith(sixEntries()[:count]...)
			if checkStore(t, limits(n, 120), s) != (count <= n) {
				t.Fatalf("with room for %d StoOk of %d entries is %v", n, count, count > n)
			}
			if checkStore(t, limits(6, 10*n), s) != (count <= n) {
				t.Fatalf("with room for %d bytes StoOk of %d is %v", 10*n, impl.StoBytes(s), count > n)
			}
		}
	}
	seven := append(sixEntries(), sized("/x", 2))
	if checkStore(t, limits(6, 120), storeWith(seven...)) || checkStore(t, limits(7, 120), storeWith(seven...)) {
		t.Fatal("there is room for six entries at most")
	}
	for _, list := range ordersOf(sixEntries()[1:]) {
		if !checkStore(t, limits(6, 50), storeWith(list...)) || checkStore(t, limits(6, 49), storeWith(list...)) {
			t.Fatalf("StoOk of %#v", list)
		}
	}
	for _, h := range []impl.CfgHouse{houseOf("one.x"), houseOf("a", "b", "c"), houseOf("a", "a", "a"), limits(1, 1), limits(6, 120)} {
		if !checkStore(t, h, impl.StoStore{}) || !checkStore(t, h, impl.StoStore{Entries: []impl.StoEntry{}}) {
			t.Fatalf("%#v may keep nothing", h)
		}
	}
}

// TestP71EveryByte goes through all limits, with one byte too many, and as many as there may be.
func TestP71EveryByte(t *testing.T) {
	for most := 1; most <= 120; most++ {
		for size := 2; size <= 60; size++ {
			if s := storeWith(sized("/a", size)); checkStore(t, limits(1, most), s) != (size <= most) {
				t.Fatalf("StoOk(.., %#v) is %v", s, size > most)
			}
			s := storeWith(sized("/a", size), sized("/b", 61))
			if checkStore(t, limits(2, most), s) != (size+61 <= most) {
				t.Fatalf("StoOk(.., %#v) is %v", s, size+61 > most)
			}
		}
	}
	for _, e := range []impl.StoEntry{
		{}, {Place: "/a"}, {Place: "/a?b=c"}, {Rsp: impl.RspRsp{Tag: "t1"}}, {Rsp: impl.RspRsp{Body: "hello"}}, {Mask: 7, Rsp: impl.RspRsp{Code: 200, Max: 5, Coding: 2}, At: 3}, {Place: "no place", Mask: -1, Rsp: impl.RspRsp{Tag: "NO TAG", Body: "\n"}, At: -1},
	} {
		if got := impl.StoSize(e); got != len(e.Place)+len(e.Rsp.Tag)+len(e.Rsp.Body) {
			t.Fatalf("StoSize(%#v) is %d", e, got)
		}
	}
}

func TestP71InvalidStorage(t *testing.T) {
	whole := storeWith(entry("/x", 1, ""), entry("/y", 3, ""))
	for _, h := range badHouses() {
		if checkStore(t, h, impl.StoStore{}) || checkStore(t, h, whole) {
			t.Fatalf("%#v is invalid", h)
		}
	}
	for _, e := range badEntries() {
		for at := range 3 {
			if checkStore(t, limits(6, 120), storeWith(slices.Insert(slices.Clone(whole.Entries), at, e)...)) {
				t.Fatalf("%#v is invalid", e)
			}
		}
	}
	for _, at := range []int{0, 1, 999998, 999999} {
		e := entry("/a", 1, "")
		e.At = at
		if !checkStore(t, limits(1, 2), storeWith(e)) {
			t.Fatalf("%#v is valid", e)
		}
	}
	for _, place := range somePlaces() {
		if !checkStore(t, limits(1, 40), storeWith(entry(place, 1, ""))) {
			t.Fatalf("%q is valid", place)
		}
	}
}

func TestP71NoTwoTheSame(t *testing.T) {
	for mask := 1; mask < 8; mask++ {
		for other := 1; other < 8; other++ {
			for _, between := range [][]impl.StoEntry{nil, {entry("/x", 1, "")}, {entry("/x", 1, ""), entry("/y", 1, "")}} {
				same := slices.Concat([]impl.StoEntry{entry("/a", mask, "one")}, between, []impl.StoEntry{entry("/a", other, "two")})
				if checkStore(t, limits(6, 120), storeWith(same...)) != (mask != other) {
					t.Fatalf("StoOk(.., %#v) is %v", same, mask == other)
				}
				same[0].Place = "/a?"
				if !checkStore(t, limits(6, 120), storeWith(same...)) {
					t.Fatalf("%#v is valid", same)
				}
			}
		}
	}
}

func TestP42TheFirstIsFound(t *testing.T) {
	a, b, gz, other := entry("/a", 1, "one"), entry("/b", 1, "two"), entry("/a", 2, "three"), entry("/a", 1, "four")
	for _, c := range []struct {
		s    impl.StoStore
		want int
	}{
		{storeWith(), -1}, {storeWith(b), -1}, {storeWith(gz), -1}, {storeWith(b, gz), -1}, {storeWith(a), 0}, {storeWith(a, b), 0}, {storeWith(b, a), 1}, {storeWith(gz, b, a), 2}, {storeWith(gz, a, b), 1},
		{storeWith(a, other), 0}, {storeWith(other, a), 0}, {storeWith(b, a, other), 1}, {storeWith(b, a, gz, other, a), 1}, {storeWith(gz, gz, b, b, other, a), 4},
	} {
		if got := impl.StoFind(c.s, "/a", 1); got != c.want {
			t.Fatalf("StoFind(%#v, \"/a\", 1) is %d", c.s, got)
		}
		out := impl.StoOut(c.s, "/a", 1)
		if c.want < 0 {
			if !sameStore(out, c.s) {
				t.Fatalf("StoOut(%#v, \"/a\", 1) is %#v", c.s, out)
			}
			continue
		}
		if len(out.Entries) != len(c.s.Entries)-1 || !slices.Equal(slices.Insert(out.Entries, c.want, c.s.Entries[c.want]), c.s.Entries) {
			t.Fatalf("StoOut(%#v, \"/a\", 1) is %#v", c.s, out)
		}
	}
}

func TestP42AnyStorage(t *testing.T) {
	valid, twice := 0, 0
	for _, s := range anyStores() {
		if checkStore(t, limits(6, 120), s) {
			valid++
		}
		for _, place := range []string{"/a", "/a?b", "/A", "/x", "no place", ""} {
			for _, mask := range []int{-1, 0, 1, 2, 3, 7, 8, math.MinInt, math.MaxInt} {
				out := checkOut(t, s, place, mask)
				if again := checkOut(t, out, place, mask); len(again.Entries) < len(out.Entries) {
					twice++
				}
			}
		}
	}
	if valid < 60 || twice < 1000 {
		t.Fatalf("%d valid ones and %d entries that stand twice prove little", valid, twice)
	}
}

func TestP41UsedEntriesComeFirst(t *testing.T) {
	list := sixEntries()
	for _, c := range []struct {
		at   int
		want []int
	}{
		{0, []int{0, 1, 2, 3, 4, 5}}, {1, []int{1, 0, 2, 3, 4, 5}}, {2, []int{2, 0, 1, 3, 4, 5}}, {4, []int{4, 0, 1, 2, 3, 5}}, {5, []int{5, 0, 1, 2, 3, 4}},
		{-1, []int{0, 1, 2, 3, 4, 5}}, {6, []int{0, 1, 2, 3, 4, 5}}, {7, []int{0, 1, 2, 3, 4, 5}}, {math.MinInt, []int{0, 1, 2, 3, 4, 5}}, {math.MaxInt, []int{0, 1, 2, 3, 4, 5}},
	} {
		got := impl.StoUse(storeWith(list...), c.at)
		if len(got.Entries) != 6 {
			t.Fatalf("StoUse(.., %d) is %#v", c.at, got)
		}
		for n, was := range c.want {
			if got.Entries[n] != list[was] {
				t.Fatalf("StoUse(.., %d) is %#v", c.at, got)
			}
		}
	}
	for _, at := range []int{-1, 0, 1, math.MinInt, math.MaxInt} {
		if got := impl.StoUse(impl.StoStore{}, at); len(got.Entries) != 0 {
			t.Fatalf("StoUse of nothing is %#v", got)
		}
	}
}

func TestP41AnyStorage(t *testing.T) {
	for _, s := range anyStores() {
		for at := range s.Entries {
			used := checkUse(t, s, at)
			if !sameStore(impl.StoUse(used, 0), used) {
				t.Fatalf("StoUse(%#v, 0) is %#v", used, impl.StoUse(used, 0))
			}
			for next := range s.Entries {
				checkUse(t, used, next)
			}
		}
	}
}

func TestP40WhatHasRoomStays(t *testing.T) {
	list := sixEntries()
	for count := range 6 {
		s, e := storeWith(list[:count]...), list[5]
		for _, h := range []impl.CfgHouse{limits(6, 120), limits(count+1, 120), limits(6, 10*count+10), limits(count+1, 10*count+10)} {
			got := impl.StoPut(h, s, e)
			if !slices.Equal(got.Entries, slices.Concat([]impl.StoEntry{e}, list[:count])) {
				t.Fatalf("StoPut(%#v, %#v, %#v) is %#v", h, s, e, got)
			}
			checkPut(t, h, s, e)
		}
	}
}

// TestP40TheSameAgain puts an entry that has room because another one of its place and codings goes.
func TestP40TheSameAgain(t *testing.T) {
	list := sixEntries()
	for at := range list {
		e := list[at]
		e.Rsp.Code, e.At = 404, 999999
		others := slices.Concat(list[:at], list[at+1:])
		got := impl.StoPut(limits(6, 60), storeWith(list...), e)
		if !slices.Equal(got.Entries, slices.Concat([]impl.StoEntry{e}, others)) {
			t.Fatalf("StoPut(.., %#v, %#v) is %#v", list, e, got)
		}
		if got = impl.StoPut(limits(6, 60), storeWith(others...), e); !slices.Equal(got.Entries, slices.Concat([]impl.StoEntry{e}, others)) {
			t.Fatalf("StoPut(.., %#v, %#v) is %#v", others, e, got)
		}
	}
}

func TestP2WhatHasNoRoom(t *testing.T) {
	a, b, c := sized("/a", 10), sized("/b", 4), sized("/c", 8)
	for _, k := range []struct {
		n, b int
		s    impl.StoStore
		e    impl.StoEntry
		want string
	}{
		{6, 30, storeWith(a, b, c), sized("/d", 8), "/d /a /b /c"},
		{6, 29, storeWith(a, b, c), sized("/d", 8), "/d /a /b"},
		{6, 22, storeWith(a, b, c), sized("/d", 8), "/d /a /b"},
		{6, 22, storeWith(a, b, c), sized("/d", 9), "/d /a"},
		{6, 22, storeWith(a, b, c), sized("/d", 12), "/d /a"},
		// There would be room for b and c, but not for a, behind which they stand.
		{6, 22, storeWith(a, b, c), sized("/d", 13), "/d"},
		{6, 22, storeWith(a, b, c), sized("/d", 22), "/d"},
		{6, 22, storeWith(a, b, c), sized("/d", 23), "/a /b /c"},
		{6, 22, storeWith(b, a, c), sized("/d", 14), "/d /b"},
		{6, 22, storeWith(b, c, a), sized("/d", 6), "/d /b /c"},
		{6, 22, storeWith(b, c, a), sized("/d", 11), "/d /b"},
		{3, 120, storeWith(a, b, c), sized("/d", 8), "/d /a /b"},
		{3, 22, storeWith(a, b, c), sized("/d", 2), "/d /a /b"},
		{3, 22, storeWith(a, b, c), sized("/d", 13), "/d"},
		{3, 22, storeWith(a, b, c), sized("/d", 23), "/a /b /c"},
		{1, 22, storeWith(a), sized("/d", 2), "/d"},
		{1, 22, storeWith(), sized("/d", 22), "/d"},
		{1, 22, storeWith(), sized("/d", 23), ""},
		{1, 10, storeWith(a), sized("/d", 11), "/a"},
		{1, 1, storeWith(), sized("/d", 2), ""},
		// The same as one that is kept.
		{3, 22, storeWith(a, b, c), sized("/c", 2), "/c /a /b"},
		{3, 22, storeWith(a, b, c), sized("/c", 9), "/c /a"},
		{3, 22, storeWith(a, b, c), sized("/a", 10), "/a /b /c"},
		{3, 22, storeWith(a, b, c), sized("/a", 11), "/a /b"},
		{3, 22, storeWith(a, b, c), sized("/a", 22), "/a"},
		{3, 22, storeWith(a, b, c), sized("/a", 2), "/a /b /c"},
		{3, 21, storeWith(a, b), sized("/b", 22), "/a"},
		{3, 21, storeWith(a, b), sized("/a", 22), "/b"},
		{1, 10, storeWith(a), sized("/a", 11), ""},
		{1, 10, storeWith(a), sized("/a", 3), "/a"},
		// The same place, for other codings.
		{6, 22, storeWith(a, b, c), entry("/a", 2, ""), "/a /a /b"},
		{2, 22, storeWith(a, b), entry("/b", 3, ""), "/b /a"},
	} {
		h := limits(k.n, k.b)
		if !checkPut(t, h, k.s, k.e) {
			t.Fatalf("%#v, %#v and %#v are valid", h, k.s, k.e)
		}
		if got := placesIn(impl.StoPut(h, k.s, k.e)); got != k.want {
			t.Fatalf("StoPut(%#v, %#v, %#v) has %q and not %q", h, k.s, k.e, got, k.want)
		}
	}
}

// TestP2AllSizes puts entries of all sizes before all orders of four, with all limits.
func TestP2AllSizes(t *testing.T) {
	puts := 0
	for _, list := range ordersOf([]impl.StoEntry{sized("/a", 3), sized("/b", 7), sized("/c", 12), entry("/a", 2, "")}) {
		for n := 4; n <= 6; n++ {
			for most := 24; most <= 50; most++ {
				for size := 2; size <= 52; size += 1 + size/8 {
					for _, place := range []string{"/a", "/c", "/d"} {
						if checkPut(t, limits(n, most), storeWith(list...), sized(place, size)) {
							puts++
						}
					}
				}
			}
		}
	}
	if puts < 50000 {
		t.Fatalf("%d puts prove little", puts)
	}
}

func TestP2InvalidArguments(t *testing.T) {
	refused := func(h impl.CfgHouse, s impl.StoStore, e impl.StoEntry) {
		t.Helper()
		if got := impl.StoPut(h, s, e); checkPut(t, h, s, e) || len(got.Entries) != 0 {
			t.Fatalf("StoPut(%#v, %#v, %#v) is %#v", h, s, e, got)
		}
	}
	h, s, e := limits(3, 60), storeWith(entry("/x", 1, ""), entry("/y", 3, "")), entry("/a", 1, "hello")
	if !checkPut(t, h, s, e) {
		t.Fatal("all three are valid")
	}
	for _, bad := range badHouses() {
		refused(bad, s, e)
		refused(bad, impl.StoStore{}, e)
	}
	for _, bad := range badEntries() {
		refused(h, s, bad)
		refused(h, impl.StoStore{}, bad)
		refused(h, storeWith(bad), e)
		refused(h, storeWith(entry("/x", 1, ""), bad), e)
		refused(h, storeWith(bad), bad)
		bad.Rsp.Body = strings.Repeat("b", 61)
		refused(h, s, bad)
	}
	refused(limits(1, 60), s, e)
	refused(limits(3, 3), s, e)
	refused(limits(1, 60), s, s.Entries[0])
	refused(h, storeWith(s.Entries[0], s.Entries[0]), e)
	refused(h, storeWith(s.Entries[0], s.Entries[1], s.Entries[0]), s.Entries[0])
	refused(impl.CfgHouse{}, impl.StoStore{}, impl.StoEntry{})
}

// TestP72StoringAgain puts what is first already, and what was just put.
func TestP72StoringAgain(t *testing.T) {
	list := sixEntries()
	for count := 1; count <= 6; count++ {
		for _, h := range []impl.CfgHouse{limits(6, 120), limits(count, 120), limits(6, 10*count), limits(count, 10*count)} {
			s := storeWith(list[:count]...)
			if got := impl.StoPut(h, s, list[0]); !sameStore(got, s) {
				t.Fatalf("StoPut(%#v, %#v, %#v) is %#v", h, s, list[0], got)
			}
			for _, e := range append(sixEntries(), sized("/e", 61), sized("/a", 61)) {
				once := impl.StoPut(h, s, e)
				if twice := impl.StoPut(h, once, e); !sameStore(once, twice) {
					t.Fatalf("%#v becomes %#v", once, twice)
				}
				checkPut(t, h, s, e)
			}
		}
	}
}

func TestP43WhatIsDropped(t *testing.T) {
	var s impl.StoStore
	for at, place := range []string{"/", "/a", "/a?q", "/a/", "/a/b", "/ab", "/b?/a", "/a/b/c?d", "/A", "/a"} {
		s.Entries = append(s.Entries, impl.StoEntry{Place: place, Mask: at, At: at})
	}
	for _, c := range []struct {
		path  string
		under bool
		want  string
		count int
	}{
		{"/a", false, "/ /a/ /a/b /ab /b?/a /a/b/c?d /A", 3},
		{"/a", true, "/ /ab /b?/a /A", 6},
		{"/a/", false, "/ /a /a?q /a/b /ab /b?/a /a/b/c?d /A /a", 1},
		{"/a/", true, "/ /a /a?q /ab /b?/a /A /a", 3},
		{"/", false, "/a /a?q /a/ /a/b /ab /b?/a /a/b/c?d /A /a", 1},
		{"/", true, "", 10},
		{"/a/b", false, "/ /a /a?q /a/ /ab /b?/a /a/b/c?d /A /a", 1},
		{"/a/b", true, "/ /a /a?q /a/ /ab /b?/a /A /a", 2},
		{"/a/b/c", false, "/ /a /a?q /a/ /a/b /ab /b?/a /A /a", 1},
		{"/a/b/c/d", true, "/ /a /a?q /a/ /a/b /ab /b?/a /a/b/c?d /A /a", 0},
		{"/b", false, "/ /a /a?q /a/ /a/b /ab /a/b/c?d /A /a", 1},
		{"/b", true, "/ /a /a?q /a/ /a/b /ab /a/b/c?d /A /a", 1},
		{"/a?q", false, "/ /a /a?q /a/ /a/b /ab /b?/a /a/b/c?d /A /a", 0},
		{"/a?q", true, "/ /a /a?q /a/ /a/b /ab /b?/a /a/b/c?d /A /a", 0},
		{"/c", true, "/ /a /a?q /a/ /a/b /ab /b?/a /a/b/c?d /A /a", 0},
		{"", false, "/ /a /a?q /a/ /a/b /ab /b?/a /a/b/c?d /A /a", 0},
		{"", true, "", 10},
		{"a", true, "/ /a /a?q /a/ /a/b /ab /b?/a /a/b/c?d /A /a", 0},
	} {
		got, count := impl.StoDrop(s, c.path, c.under)
		if placesIn(got) != c.want || count != c.count {
			t.Fatalf("StoDrop(.., %q, %v) has %q, %d", c.path, c.under, placesIn(got), count)
		}
		checkDrop(t, s, c.path, c.under)
		if none, count := impl.StoDrop(impl.StoStore{}, c.path, c.under); len(none.Entries) != 0 || count != 0 {
			t.Fatalf("StoDrop of nothing is %#v, %d", none, count)
		}
	}
}

func TestP43AnyStorage(t *testing.T) {
	paths := append(oddStrings(), "/", "/a", "/a/", "/a/b", "/a?b", "/x", "/%61", "no place", "no", "a")
	dropped := 0
	for _, s := range anyStores() {
		for _, path := range paths {
			dropped += checkDrop(t, s, path, false) + checkDrop(t, s, path, true)
		}
	}
	if dropped < 10000 {
		t.Fatalf("%d dropped entries prove little", dropped)
	}
}

func TestP79InEitherOrder(t *testing.T) {
	kinds := []impl.StoEntry{sized("/a", 2), entry("/a", 1, "new"), entry("/a", 2, ""), sized("/b", 4), {Place: "no place", Mask: -1}}
	for _, list := range listsOf(kinds, 5) {
		s := storeWith(list...)
		for _, a := range kinds {
			for _, b := range kinds {
				one := impl.StoOut(impl.StoOut(s, a.Place, a.Mask), b.Place, b.Mask)
				other := impl.StoOut(impl.StoOut(s, b.Place, b.Mask), a.Place, a.Mask)
				if !sameStore(one, other) {
					t.Fatalf("without %#v and %#v %#v is %#v or %#v", a, b, s, one, other)
				}
			}
		}
	}
}

func TestP80OutAndIn(t *testing.T) {
	for count := 1; count <= 6; count++ {
		for _, list := range ordersOf(sixEntries()[6-count:]) {
			for _, h := range []impl.CfgHouse{limits(6, 120), limits(count, 10*count)} {
				for at, e := range list {
					s := storeWith(list...)
					got := impl.StoPut(h, impl.StoOut(s, e.Place, e.Mask), e)
					if !sameStore(got, impl.StoUse(s, at)) || got.Entries[0] != e {
						t.Fatalf("%#v becomes %#v by %#v", s, got, e)
					}
				}
			}
		}
	}
}

// chanceEntry puts an entry together by chance, valid more often than not.
func chanceEntry(r *rand.Rand) impl.StoEntry {
	places := []string{"/", "/a", "/a?b", "/a/", "/a/b", "/ab", "/%2C", "/" + strings.Repeat("t", r.Intn(40))}
	e := entry(places[r.Intn(len(places))], 1+r.Intn(7), strings.Repeat("b", r.Intn(21)))
	e.At = r.Intn(1000000)
	e.Rsp.Tag = []string{"", "t1", "twelve-bytes"}[r.Intn(3)]
	e.Rsp.Code = []int{200, 404}[r.Intn(2)]
	if r.Intn(60) == 0 {
		bad := badEntries()
		e = bad[r.Intn(len(bad))]
	}
	return e
}

func TestP2StorageByChance(t *testing.T) {
	r := rand.New(rand.NewSource(2))
	puts, refused, gone := 0, 0, 0
	for range 600 {
		h := limits(1+r.Intn(6), 1+r.Intn(120))
		var s impl.StoStore
		for range 30 {
			e := chanceEntry(r)
			if !checkPut(t, h, s, e) {
				refused++
				continue
			}
			puts++
			next := impl.StoPut(h, s, e)
			gone += max(len(s.Entries)-len(next.Entries), 0)
			s = next
			if !checkStore(t, h, s) {
				t.Fatalf("%#v is valid for %#v", s, h)
			}
			checkDrop(t, s, impl.UriPath(chanceEntry(r).Place), r.Intn(2) == 0)
			if r.Intn(3) == 0 {
				s = checkUse(t, s, r.Intn(7))
			}
			if r.Intn(10) == 0 {
				s, _ = impl.StoDrop(s, "/a", r.Intn(2) == 0)
			}
		}
	}
	if puts < 10000 || refused < 200 || gone < 1000 {
		t.Fatalf("%d puts, %d refused and %d entries that went prove little", puts, refused, gone)
	}
}

// TestP2ResultsAreNew writes over what one result holds, and expects it nowhere else.
func TestP2ResultsAreNew(t *testing.T) {
	h, e := limits(3, 60), impl.StoEntry{Place: "/a", Mask: 4, Rsp: wholeRsp(), At: 3}
	s := storeWith(impl.StoEntry{Place: "/b", Mask: 4, Rsp: wholeRsp(), At: 3}, impl.StoEntry{Place: "/c", Mask: 4, Rsp: wholeRsp(), At: 3})
	before := copyOfStore(s)
	results := func() []impl.StoStore {
		dropped, _ := impl.StoDrop(s, "/none", true)
		return []impl.StoStore{impl.StoPut(h, s, e), impl.StoUse(s, 1), impl.StoUse(s, 9), impl.StoOut(s, "/b", 4), impl.StoOut(s, "/none", 4), dropped, impl.StoPut(limits(6, 12), storeWith(), sized("/e", 12))}
	}
	given := append(slices.Clone(s.Entries), e)
	for _, got := range results() {
		for at, one := range got.Entries {
			for _, other := range slices.Concat(given, got.Entries[:at]) {
				apart(t, one.Place, other.Place)
				apart(t, one.Rsp.Tag, other.Rsp.Tag)
				apart(t, one.Rsp.Body, other.Rsp.Body)
			}
		}
	}
	first, second := results(), results()
	for at, got := range first {
		whole := got.Entries[:cap(got.Entries)]
		for n := range whole {
			whole[n] = impl.StoEntry{Place: "written"}
		}
		if !sameStore(s, before) || strings.Contains(placesIn(second[at]), "written") {
			t.Fatalf("%#v, %#v", s, second[at])
		}
	}
	if !sameStore(second[0], storeWith(e, s.Entries[0], s.Entries[1])) {
		t.Fatalf("%#v", second[0])
	}
}
