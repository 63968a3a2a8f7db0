package sample

import (
	"iter"
	"strings"

	"umbel/api"
)

// Tangles tells, with what they are, lists of that many nodes that are no tries, on which a walk that trusts them would not end, or not soon. Each is gone when the next one is told.
func Tangles(count int) iter.Seq2[string, api.Trie] {
	long := strings.Repeat("\x01", 1<<16)
	kinds := []struct {
		name string
		node func(i int) api.Node
	}{
		{"each child the next node", alike},
		{"one Ext beneath the other", func(i int) api.Node { return Ext("\x01", i+1) }},
		{"one Ext without a Path beneath the other", func(i int) api.Node { return Ext("", i+1) }},
		{"one Branch beneath the other", func(i int) api.Node { return Branch(i%16, i+1) }},
		{"each its own child", func(i int) api.Node { return Branch(i%16, i) }},
		{"forwards and backwards", func(i int) api.Node { return Ext("\x01", count-i) }},
		{"long texts", func(int) api.Node { return Leaf(long, long) }},
		{"none of them a node", func(int) api.Node { return api.Node{} }},
	}
	return func(yield func(string, api.Trie) bool) {
		t := make(api.Trie, count)
		for _, k := range kinds {
			for i := range t {
				t[i] = k.node(i)
			}
			if !yield(k.name, t) {
				return
			}
		}
	}
}

// alike is a Branch all of whose children are the next node.
func alike(i int) api.Node {
	n := api.Node{Kind: api.Branch}
	for half := range n.Kids {
		n.Kids[half] = i + 1
	}
	return n
}
