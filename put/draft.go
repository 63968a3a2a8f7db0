package put

import (
	"slices"
	"strings"

	"umbel/api"
	"umbel/nibble"
)

// draft is the nodes of a trie, the first one first and the others in no order, so that a pair more is some nodes more at the end, not all others moved. A node of nothing is an empty place.
type draft []api.Node

// open has the nodes of t, or of none an empty place.
func open(t api.Trie) draft {
	if len(t) == 0 {
		return draft{{}}
	}
	return slices.Clone(draft(t))
}

// leaf has the node of a key alone.
func leaf(rest, value string) api.Node {
	return api.Node{Kind: api.Leaf, Path: rest, Has: true, Value: value}
}

// put has the nodes with the value where the nibbles lead.
func put(d draft, rest, value string) draft {
	at := 0
	for {
		n := d[at]
		switch {
		case n == api.Node{} || n == leaf(rest, n.Value):
			d[at] = leaf(rest, value)
			return d
		case n.Kind == api.Branch && rest == "":
			d[at].Has, d[at].Value = true, value
			return d
		case n.Kind == api.Branch:
			d = withChild(d, at, rest[0])
			at, rest = d[at].Kids[rest[0]], rest[1:]
		case n.Kind == api.Ext && strings.HasPrefix(rest, n.Path):
			at, rest = n.Kids[0], rest[len(n.Path):]
		default:
			// The key leaves the node's Path: there it becomes a Branch, and the key goes on from that.
			d = part(d, at, nibble.Common(n.Path, rest))
		}
	}
}

// withChild has the nodes with a child of that nibble, at least an empty place, beneath the Branch at that place.
func withChild(d draft, at int, half byte) draft {
	if d[at].Kids[half] != 0 {
		return d
	}
	d[at].Kids[half] = len(d)
	return append(d, api.Node{})
}

// part has the nodes with a Branch in place of the Leaf or Ext there, beneath as many nibbles of its Path as stay above it. What was there goes beneath the Branch, which has a child or value too few till a key is put there.
func part(d draft, at, stay int) draft {
	n := d[at]
	above, rest := n.Path[:stay], n.Path[stay:]
	if above != "" {
		d[at] = api.Node{Kind: api.Ext, Path: above, Kids: [16]int{len(d)}}
		at = len(d)
		d = append(d, api.Node{})
	}
	d[at] = api.Node{Kind: api.Branch}
	switch {
	case rest == "":
		d[at].Has, d[at].Value = true, n.Value
	case n.Kind == api.Ext && len(rest) == 1:
		// Nothing is left of its Path, and an Ext without one may not be.
		d[at].Kids[rest[0]] = n.Kids[0]
	default:
		d[at].Kids[rest[0]] = len(d)
		n.Path = rest[1:]
		d = append(d, n)
	}
	return d
}

// lay lays the node at that place, and what is beneath it, behind t, in a trie's order and memory of its own.
func lay(t api.Trie, d draft, at int) api.Trie {
	n := d[at]
	if n == (api.Node{}) {
		return t
	}
	own := len(t)
	t = append(t, api.Node{Kind: n.Kind, Path: strings.Clone(n.Path), Has: n.Has, Value: strings.Clone(n.Value)})
	for half, kid := range n.Kids {
		if kid != 0 {
			t[own].Kids[half] = len(t)
			t = lay(t, d, kid)
		}
	}
	return t
}
