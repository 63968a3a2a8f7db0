// Package draft is a trie's nodes while they are changed, for the layers that make one trie of another. It trusts its caller that they are a trie's.
package draft

import (
	"slices"
	"strings"

	"umbel/api"
)

// Nodes are the nodes of a trie, the first one first and the others in no order, so that a change of some moves no others. A node of nothing is an empty place, and a node to which no other one leads is there no more.
type Nodes []api.Node

// Open has the nodes of t, or of none an empty place.
func Open(t api.Trie) Nodes {
	if len(t) == 0 {
		return Nodes{{}}
	}
	return slices.Clone(Nodes(t))
}

// Leaf has the node of a key alone.
func Leaf(rest, value string) api.Node {
	return api.Node{Kind: api.Leaf, Path: rest, Has: true, Value: value}
}

// Lay has the nodes in a trie's order and memory of their own.
func (d Nodes) Lay() api.Trie {
	return d.lay(nil, 0)
}

// lay lays the node at that place, and what is beneath it, behind t.
func (d Nodes) lay(t api.Trie, at int) api.Trie {
	n := d[at]
	if n == (api.Node{}) {
		return t
	}
	own := len(t)
	t = append(t, api.Node{Kind: n.Kind, Path: strings.Clone(n.Path), Has: n.Has, Value: strings.Clone(n.Value)})
	for half, kid := range n.Kids {
		if kid != 0 {
			t[own].Kids[half] = len(t)
			t = d.lay(t, kid)
		}
	}
	return t
}
