package sample

import (
	"iter"
	"math"
	"strings"

	"umbel/api"
)

// Large is the trie of the keys 10, 11 20, 11 20 30, 11 21, 40: nodes of each Kind above and beneath others.
func Large() api.Trie {
	return api.Trie{Branch(1, 1, 4, 8), Branch(0, 2, 1, 3), Leaf("", "a"), Ext("\x02", 4), Branch(0, 5, 1, 7), Valued("b", 3, 6), Leaf("\x00", "e"), Leaf("", "c"), Leaf("\x00", "d")}
}

// Wrong tells, with what is wrong in them, nodes that are no trie: a few, and those of Large with one of them made another one.
func Wrong() iter.Seq2[string, api.Trie] {
	return func(yield func(string, api.Trie) bool) {
		few := []struct {
			name  string
			nodes api.Trie
		}{
			{"a node of nothing", api.Trie{{}}},
			{"an odd key", api.Trie{Leaf("\x01", "v")}},
			{"an empty key", api.Trie{Leaf("", "v")}},
			{"a key of nine bytes", api.Trie{Leaf(strings.Repeat("\x01", 18), "v")}},
			{"cut short", Large()[:8]},
			{"a node too many", append(Large(), Leaf("\x00", "f"))},
			{"an Ext without a Path", api.Trie{Ext("", 1), Branch(1, 2, 2, 3), Leaf("\x00", "v"), Leaf("\x00", "w")}},
		}
		for _, x := range few {
			if !yield(x.name, x.nodes) {
				return
			}
		}
		for _, x := range changes() {
			nodes := Large()
			x.change(&nodes[x.at])
			if !yield(x.name, nodes) {
				return
			}
		}
	}
}

type change struct {
	name   string
	at     int
	change func(n *api.Node)
}

// changes has what one node of Large may not be.
func changes() []change {
	return []change{
		{"a Kind", 8, func(n *api.Node) { n.Kind = api.Branch }},
		{"no Kind", 8, func(n *api.Node) { n.Kind = math.MinInt }},
		{"too long a value", 8, func(n *api.Node) { n.Value = Longest + "!" }},
		{"a value without Has", 0, func(n *api.Node) { n.Value = "x" }},
		{"a Path without end", 3, func(n *api.Node) { n.Path = strings.Repeat("\x02", 1<<16) }},
		{"a Path of no nibbles", 8, func(n *api.Node) { n.Path = "\x10" }},
		{"its own child", 5, func(n *api.Node) { n.Kids[3] = 5 }},
		{"a child far away", 1, func(n *api.Node) { n.Kids[0] = math.MaxInt }},
		{"a child below 0", 1, func(n *api.Node) { n.Kids[0] = -2 }},
		{"a child of a Leaf", 2, func(n *api.Node) { n.Kids[15] = 3 }},
		{"a round", 4, func(n *api.Node) { n.Kids[0] = 1 }},
	}
}
