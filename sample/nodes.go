package sample

import "umbel/api"

// Leaf is such a node.
func Leaf(path, value string) api.Node {
	return api.Node{Kind: api.Leaf, Path: path, Has: true, Value: value}
}

// Ext is such a node.
func Ext(path string, kid int) api.Node {
	return api.Node{Kind: api.Ext, Path: path, Kids: [16]int{kid}}
}

// Branch is such a node without a value: nibbles and children's numbers by turns.
func Branch(kids ...int) api.Node {
	n := api.Node{Kind: api.Branch}
	for i := 1; i < len(kids); i += 2 {
		n.Kids[kids[i-1]] = kids[i]
	}
	return n
}

// Valued is such a node with a value.
func Valued(value string, kids ...int) api.Node {
	n := Branch(kids...)
	n.Has, n.Value = true, value
	return n
}
