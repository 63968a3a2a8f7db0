package trie

import (
	"strings"

	"umbel/api"
	"umbel/nibble"
)

// read tells the pairs whose trie t is, with t's own values, and the nibbles that lead to each node; false, if there are no such pairs.
func read(t api.Trie) ([]api.Pair, []string, bool) {
	l, paths, ok := gather(t)
	if !ok {
		return nil, nil, false
	}
	// Pairs have one trie alone: what gather does not ask of t is right just if t is the one that they have.
	want, ok := Build(l)
	if !ok || !Same(t, want) {
		return nil, nil, false
	}
	return l, paths, true
}

// gather goes through the nodes once, and has the pairs that they would make and what leads to each; false, if a child does not stand behind its node, or what leads to a value is no key.
func gather(t api.Trie) ([]api.Pair, []string, bool) {
	var l []api.Pair
	paths := make([]string, len(t))
	for i, n := range t {
		end := paths[i] + n.Path
		if !nibble.Good(end) {
			return nil, nil, false
		}
		if n.Has {
			key, ok := nibble.Key(end)
			if !ok {
				return nil, nil, false
			}
			l = append(l, api.Pair{Key: key, Value: n.Value})
		}
		for half, kid := range n.Kids {
			if kid == 0 {
				continue
			}
			if kid <= i || kid >= len(t) {
				return nil, nil, false
			}
			paths[kid] = childPath(n.Kind, end, half)
		}
	}
	return l, paths, true
}

// childPath has what leads to a child of a node whose own Path ends at end: an Ext's child stands there, others' a nibble further on.
func childPath(kind int, end string, half int) string {
	if kind == api.Ext {
		return strings.Clone(end)
	}
	return end + string([]byte{byte(half)})
}
