package tests

// stringsOf returns every string of at most most pieces, the empty one included.
func stringsOf(pieces []string, most int) []string {
	all := []string{""}
	last := all
	for range most {
		var next []string
		for _, s := range last {
			for _, p := range pieces {
				next = append(next, s+p)
			}
		}
		all = append(all, next...)
		last = next
	}
	return all
}

// oddStrings returns strings that have little in common with anything that is valid.
func oddStrings() []string {
	return []string{
		"", " ", "   ", "\x00", "\n", "\t a \t", "\xff\xfe", "\xc3", "\xc3\x84", "\u00a0a\u00a0", "\u2003x\u2003",
		"ÄÖÜ", "\u212a", "a\x00b", " a b ", "A B", "Name: Value", "\r\n", "%41", "０", "-", "--", "@[`{",
	}
}
