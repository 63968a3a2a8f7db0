package trie

import (
	"strings"

	"umbel/api"
	"umbel/nibble"
)

// mayBe tells whether the keys rise, and keys and values are as long as they may be.
func mayBe(l []api.Pair) bool {
	for i, p := range l {
		if p.Key == "" || len(p.Key) > api.MaxKey || len(p.Value) > api.MaxValue {
			return false
		}
		if i > 0 && l[i-1].Key >= p.Key {
			return false
		}
	}
	return true
}

// byNibbles has the pairs with their keys' nibbles as keys, which rise as the keys do.
func byNibbles(l []api.Pair) []api.Pair {
	out := make([]api.Pair, 0, len(l))
	for _, p := range l {
		out = append(out, api.Pair{Key: nibble.Of(p.Key), Value: p.Value})
	}
	return out
}

// grow lays the nodes of l behind t; the nibbles of l are alike up to from.
func grow(t api.Trie, l []api.Pair, from int) api.Trie {
	if len(l) == 0 {
		return t
	}
	rest := l[0].Key[from:]
	if len(l) == 1 {
		return append(t, api.Node{Kind: api.Leaf, Path: rest, Has: true, Value: strings.Clone(l[0].Value)})
	}
	// The keys rise: what the first and the last have in common, those between them have too.
	common := nibble.Common(rest, l[len(l)-1].Key[from:])
	if common > 0 {
		t = append(t, api.Node{Kind: api.Ext, Path: rest[:common], Kids: [16]int{len(t) + 1}})
	}
	return fork(t, l, from+common)
}

// fork lays a Branch and what is beneath it behind t; the pairs of l are two or more, and part at from.
func fork(t api.Trie, l []api.Pair, from int) api.Trie {
	n := api.Node{Kind: api.Branch}
	// The keys rise: one that ends here is the first.
	if len(l[0].Key) == from {
		n.Has, n.Value = true, strings.Clone(l[0].Value)
		l = l[1:]
	}
	at := len(t)
	t = append(t, n)
	for half, group := range split(l, from) {
		if len(group) > 0 {
			t[at].Kids[half] = len(t)
			t = grow(t, group, from+1)
		}
	}
	return t
}

// split has the pairs of l by their nibble at from, which each of them has.
func split(l []api.Pair, from int) [16][]api.Pair {
	var groups [16][]api.Pair
	for i, p := range l {
		half := p.Key[from]
		// The keys rise: the pairs of one nibble stand side by side.
		groups[half] = l[i-len(groups[half]) : i+1]
	}
	return groups
}
