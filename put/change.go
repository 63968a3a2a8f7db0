package put

import (
	"strings"

	"umbel/api"
	"umbel/draft"
	"umbel/nibble"
)

// put has the nodes with the value where the nibbles lead.
func put(d draft.Nodes, rest, value string) draft.Nodes {
	at := 0
	for {
		n := d[at]
		switch {
		case n == api.Node{} || n == draft.Leaf(rest, n.Value):
			d[at] = draft.Leaf(rest, value)
			return d
		case n.Kind == api.Branch && rest == "":
			d[at].Has, d[at].Value = true, value
			return d
		case n.Kind == api.Branch:
			d = withChild(d, at, rest[0])
			at, rest = d[at].Kids[rest[0]], rest[1:]
		case n.Kind == api.Ext && strings.HasPrefix(rest, n.Path):
			at, rest = n.Kids[0], rest[len(n.Path):]
		default:
			// The key leaves the node's Path: there it becomes a Branch, and the key goes on from that.
			d = part(d, at, nibble.Common(n.Path, rest))
		}
	}
}

// withChild has the nodes with a child of that nibble, at least an empty place, beneath the Branch at that place.
func withChild(d draft.Nodes, at int, half byte) draft.Nodes {
	if d[at].Kids[half] != 0 {
		return d
	}
	d[at].Kids[half] = len(d)
	return append(d, api.Node{})
}

// part has the nodes with a Branch in place of the Leaf or Ext there, beneath as many nibbles of its Path as stay above it. What was there goes beneath the Branch, which has a child or value too few till a key is put there.
func part(d draft.Nodes, at, stay int) draft.Nodes {
	n := d[at]
	above, rest := n.Path[:stay], n.Path[stay:]
	if above != "" {
		d[at] = api.Node{Kind: api.Ext, Path: above, Kids: [16]int{len(d)}}
		at = len(d)
		d = append(d, api.Node{})
	}
	d[at] = api.Node{Kind: api.Branch}
	switch {
	case rest == "":
		d[at].Has, d[at].Value = true, n.Value
	case n.Kind == api.Ext && len(rest) == 1:
		// Nothing is left of its Path, and an Ext without one may not be.
		d[at].Kids[rest[0]] = n.Kids[0]
	default:
		d[at].Kids[rest[0]] = len(d)
		n.Path = rest[1:]
		d = append(d, n)
	}
	return d
}
