package sample

import "umbel/api"

// Worded has pairs whose keys and values have several bytes, so that it can be told which answers share memory with them. Their trie has Exts and Leaves of long Paths, a Branch with a value, and values that are alike.
func Worded() []api.Pair {
	return Pairs("abcd1234", "the first value", "abcd5678", "the second one", "abce", "the third", "abcefgh", "the first value", "zyx", Longest)
}

// Texts has all texts of nodes and pairs, but those of one byte, which may stand in memory that never changes.
func Texts(t api.Trie, l []api.Pair) []string {
	var out []string
	add := func(texts ...string) {
		for _, s := range texts {
			if len(s) > 1 {
				out = append(out, s)
			}
		}
	}
	for _, n := range t {
		add(n.Path, n.Value)
	}
	for _, p := range l {
		add(p.Key, p.Value)
	}
	return out
}

// Spoil writes over all of l, its spare room too.
func Spoil[T any](l []T, with T) {
	l = l[:cap(l)]
	for i := range l {
		l[i] = with
	}
}
