package tests

import "slices"

// stringsOf returns every string of at most most pieces, the empty one included.
func stringsOf(pieces []string, most int) []string {
	all := []string{""}
	last := all
	for range most {
		var next []string
		for _, s := range last {
			for _, p := range pieces {
				next = append(next, s+p)
			}
		}
		all = append(all, next...)
		last = next
	}
	return all
}

// listsOf returns every list of at most most items, the empty one included; no two share memory.
func listsOf[T any](items []T, most int) [][]T {
	all := [][]T{nil}
	last := all
	for range most {
		var next [][]T
		for _, list := range last {
			for _, item := range items {
				next = append(next, append(slices.Clone(list), item))
			}
		}
		all = append(all, next...)
		last = next
	}
	return all
}

// oddStrings returns strings that have little in common with anything that is valid.
func oddStrings() []string {
	return []string{
		"", " ", "   ", "\x00", "\n", "\t a \t", "\xff\xfe", "\xc3", "\xc3\x84", "\u00a0a\u00a0", "\u2003x\u2003",
		"ÄÖÜ", "\u212a", "a\x00b", " a b ", "A B", "Name: Value", "\r\n", "%41", "０", "-", "--", "@[`{",
	}
}
