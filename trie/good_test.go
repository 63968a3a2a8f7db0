package trie_test

import (
	"math"
	"strconv"
	"strings"
	"testing"

	"umbel/api"
	"umbel/trie"
)

// checkNoTrie holds the calls to nodes that are no pairs' trie.
func checkNoTrie(t *testing.T, name string, nodes api.Trie) {
	t.Helper()
	if trie.Good(nodes) {
		t.Errorf("%s: Good(%#v) = true", name, nodes)
	}
	if got, ok := trie.Pairs(nodes); len(got) != 0 || ok {
		t.Errorf("%s: Pairs(%#v) = %q, %v, want nothing and false", name, nodes, got, ok)
	}
	if got, ok := trie.Paths(nodes); len(got) != 0 || ok {
		t.Errorf("%s: Paths(%#v) = %q, %v, want nothing and false", name, nodes, got, ok)
	}
}

// small is the trie of the keys 12 and 13: an Ext, a Branch, two Leaves.
func small() api.Trie {
	return api.Trie{ext("\x01", 1), branch(2, 2, 3, 3), leaf("", "v"), leaf("", "w")}
}

// changed is the trie with one of its nodes made another one.
func changed(nodes api.Trie, at int, change func(n *api.Node)) api.Trie {
	nodes = copied(nodes)
	change(&nodes[at])
	return nodes
}

// The tries that the tests below change are tries.
func TestTriesToBeChanged(t *testing.T) {
	for _, nodes := range []api.Trie{small(), large()} {
		if !trie.Good(nodes) {
			t.Errorf("Good(%#v) = false", nodes)
		}
	}
}

// P10.1: Kinds that are none of the three, and each node as one of another Kind.
func TestOtherKinds(t *testing.T) {
	for _, nodes := range []api.Trie{{leaf("\x01\x02", "v")}, small(), large()} {
		for at, n := range nodes {
			for _, kind := range []int{0, 1, 2, 3, 4, -1, -2, -3, 255, 256, 257, 258, 259, 1<<32 + 1, 1<<32 + 2, 1<<32 + 3, math.MinInt, math.MaxInt} {
				if kind != n.Kind {
					checkNoTrie(t, "another Kind", changed(nodes, at, func(n *api.Node) { n.Kind = kind }))
				}
			}
		}
	}
	checkNoTrie(t, "a node of nothing", api.Trie{{}})
	checkNoTrie(t, "two of nothing", api.Trie{{}, {}})
	checkNoTrie(t, "a Leaf's Kind alone", api.Trie{{Kind: api.Leaf}})
	checkNoTrie(t, "an Ext's Kind alone", api.Trie{{Kind: api.Ext}})
	checkNoTrie(t, "a Branch's Kind alone", api.Trie{{Kind: api.Branch}})
}

// P10.1: a node that is missing, the children's numbers as they were, and as they would be without it.
func TestNodesMissing(t *testing.T) {
	for _, nodes := range []api.Trie{small(), large()} {
		for at := range nodes {
			if at > 0 {
				checkNoTrie(t, "cut short", nodes[:at])
			}
			rest := append(copied(nodes[:at]), nodes[at+1:]...)
			checkNoTrie(t, "one missing", rest)
			for i := range rest {
				for half, kid := range rest[i].Kids {
					switch {
					case kid == at:
						rest[i].Kids[half] = 0
					case kid > at:
						rest[i].Kids[half] = kid - 1
					}
				}
			}
			checkNoTrie(t, "one missing, the others moved", rest)
		}
	}
	checkNoTrie(t, "nothing in place of the last Leaf", append(small()[:3], api.Node{}))
}

// P10.1: a node too many, to which no child points, behind the others and among them.
func TestNodesTooMany(t *testing.T) {
	for _, nodes := range []api.Trie{small(), large(), {leaf("\x01\x02", "v")}} {
		for _, more := range []api.Node{{}, leaf("", "x"), leaf("\x01", "x"), leaf("\x0f\x0f", "x"), branch(), ext("\x01", 1), ext("\x01", len(nodes)+1), branch(1, 1, 2, 2), nodes[0], nodes[len(nodes)-1]} {
			checkNoTrie(t, "one behind the others", append(copied(nodes), more))
			for at := range nodes {
				rest := append(append(copied(nodes[:at]), more), nodes[at:]...)
				for i := range rest {
					for half, kid := range rest[i].Kids {
						if kid >= at && kid > 0 && i != at {
							rest[i].Kids[half] = kid + 1
						}
					}
				}
				checkNoTrie(t, "one among the others", rest)
			}
		}
		checkNoTrie(t, "twice", append(copied(nodes), nodes...))
	}
	checkNoTrie(t, "two Leaves", api.Trie{leaf("\x01\x02", "v"), leaf("\x01\x03", "w")})
	checkNoTrie(t, "a child to which its Branch points no more", changed(large(), 0, func(n *api.Node) { n.Kids[4] = 0 }))
	checkNoTrie(t, "one of three children to which the Branch points no more", api.Trie{branch(1, 1, 3, 3), leaf("\x00", "a"), leaf("\x00", "b"), leaf("\x00", "c")})
}

// moved is the trie with its nodes in another order, each child's number with them: node i stands at to[i].
func moved(nodes api.Trie, to []int) api.Trie {
	out := make(api.Trie, len(nodes))
	for i, n := range nodes {
		for half, kid := range n.Kids {
			if kid > 0 {
				n.Kids[half] = to[kid]
			}
		}
		out[to[i]] = n
	}
	return out
}

// P10.1: the right nodes, each with the right children, in another order: each other order of a few, and two changed of more.
func TestOtherOrders(t *testing.T) {
	var each func(to []int, left []int)
	each = func(to, left []int) {
		for i, place := range left {
			rest := append(append([]int(nil), left[:i]...), left[i+1:]...)
			each(append(append([]int(nil), to...), place), rest)
		}
		if len(left) > 0 {
			return
		}
		for at, place := range to {
			if at != place {
				checkNoTrie(t, "another order", moved(small(), to))
				return
			}
		}
	}
	each(nil, []int{0, 1, 2, 3})
	for a := range large() {
		for b := range a {
			to := []int{0, 1, 2, 3, 4, 5, 6, 7, 8}
			to[a], to[b] = b, a
			checkNoTrie(t, "two changed", moved(large(), to))
			swapped := large()
			swapped[a], swapped[b] = swapped[b], swapped[a]
			if swapped[a].Kind == api.Leaf && swapped[b].Kind == api.Leaf && swapped[a].Path == swapped[b].Path {
				continue // their values alone have changed places: it is the trie of other pairs
			}
			checkNoTrie(t, "two changed, the children's numbers as they were", swapped)
		}
	}
	checkNoTrie(t, "the children's last one first", api.Trie{ext("\x01", 1), branch(2, 3, 3, 2), leaf("", "w"), leaf("", "v")})
	checkNoTrie(t, "level by level", api.Trie{branch(1, 1, 4, 2), branch(0, 3, 1, 4), leaf("\x00", "d"), leaf("", "a"), leaf("", "b")})
	checkNoTrie(t, "children ahead of their node", api.Trie{leaf("", "v"), leaf("", "w"), branch(2, 0, 3, 1), ext("\x01", 2)})
}

// P10.1: children's numbers that are wrong: to the node itself, backwards, to another one, beyond the end, below 0.
func TestOtherChildren(t *testing.T) {
	for _, nodes := range []api.Trie{{leaf("\x01\x02", "v")}, small(), large()} {
		for at := range nodes {
			for half, was := range nodes[at].Kids {
				for kid := -len(nodes) - 2; kid <= len(nodes)+2; kid++ {
					if kid != was {
						checkNoTrie(t, "another child", changed(nodes, at, func(n *api.Node) { n.Kids[half] = kid }))
					}
				}
				for _, kid := range []int{math.MinInt, math.MinInt + was, math.MaxInt, 1<<31 + was, 1<<32 + was, 1<<62 + was, 256 + was, -was - 1<<32} {
					checkNoTrie(t, "another child, far away", changed(nodes, at, func(n *api.Node) { n.Kids[half] = kid }))
				}
			}
		}
	}
	checkNoTrie(t, "an Ext to itself", api.Trie{ext("\x01\x02", 0)})
	checkNoTrie(t, "a Branch whose children are one", api.Trie{branch(1, 1, 2, 1), leaf("\x00", "v")})
	checkNoTrie(t, "a Branch's children changed for one another", api.Trie{ext("\x01", 1), branch(2, 3, 3, 2), leaf("", "v"), leaf("", "w")})
	checkNoTrie(t, "a round", api.Trie{ext("\x01", 1), ext("\x01", 0)})
}

// P10.1: an Ext beneath an Ext, above a Leaf, and without a Path.
func TestExtsThatMayNotBe(t *testing.T) {
	below := api.Trie{branch(2, 1, 3, 2), leaf("\x00", "v"), leaf("\x00", "w")}
	under := func(top ...api.Node) api.Trie {
		out := api.Trie(top)
		for _, n := range below {
			for half := range n.Kids {
				if n.Kids[half] > 0 {
					n.Kids[half] += len(top)
				}
			}
			out = append(out, n)
		}
		return out
	}
	if !trie.Good(under()) || !trie.Good(under(ext("\x01\x02", 1))) {
		t.Fatal("what is beneath is no trie")
	}
	for _, x := range []struct {
		name  string
		nodes api.Trie
	}{
		{"beneath an Ext", under(ext("\x01", 1), ext("\x02", 2))},
		{"beneath a longer Ext", under(ext("\x01\x02\x03", 1), ext("\x04", 2))},
		{"beneath two", under(ext("\x01", 1), ext("\x02\x03", 2), ext("\x04", 3))},
		{"beneath a Branch's child", api.Trie{branch(1, 1, 2, 5), ext("\x01", 2), ext("\x01", 3), branch(0, 4, 1, 5), leaf("", "v"), leaf("", "w")}},
		{"above a Leaf", api.Trie{ext("\x01", 1), leaf("\x02", "v")}},
		{"above a Leaf without a Path", api.Trie{ext("\x01\x02", 1), leaf("", "v")}},
		{"above a Leaf, beneath a Branch", api.Trie{branch(1, 1, 2, 3), ext("\x01", 2), leaf("", "v"), leaf("\x00", "w")}},
		{"without a Path", under(ext("", 1))},
		{"without a Path, above a Leaf", api.Trie{ext("", 1), leaf("\x01\x02", "v")}},
		{"without a child", api.Trie{ext("\x01\x02", 0)}},
		{"above nothing but itself", api.Trie{ext("\x01\x02", 0), leaf("\x01\x02", "v")}},
		{"its child not the first of its children", changed(under(ext("\x01\x02", 1)), 0, func(n *api.Node) { n.Kids = [16]int{1: 1} })},
		{"its child the first and another", changed(under(ext("\x01\x02", 1)), 0, func(n *api.Node) { n.Kids = [16]int{1, 1} })},
		{"two children", changed(under(ext("\x01\x02", 1)), 0, func(n *api.Node) { n.Kids[15] = 2 })},
		{"a value", changed(under(ext("\x01\x02", 1)), 0, func(n *api.Node) { n.Has, n.Value = true, "x" })},
		{"an empty value", changed(under(ext("\x01\x02", 1)), 0, func(n *api.Node) { n.Has = true })},
		{"a Value without Has", changed(under(ext("\x01\x02", 1)), 0, func(n *api.Node) { n.Value = "x" })},
	} {
		checkNoTrie(t, x.name, x.nodes)
	}
}

// P10.1: Branches that lead one way alone, or nowhere, and fields that a Branch has not.
func TestBranchesThatMayNotBe(t *testing.T) {
	for _, x := range []struct {
		name  string
		nodes api.Trie
	}{
		{"one child and no value", api.Trie{branch(1, 1), leaf("\x02", "v")}},
		{"one child and no value, beneath an Ext", api.Trie{ext("\x01\x02", 1), branch(0, 2), leaf("\x00", "v")}},
		{"one child and no value, beneath a Branch", api.Trie{branch(1, 1, 2, 3), branch(0, 2), leaf("", "v"), leaf("\x00", "w")}},
		{"one child and no value, above a Branch", api.Trie{branch(1, 1), branch(2, 2, 3, 3), leaf("", "v"), leaf("", "w")}},
		{"a value and no child", api.Trie{ext("\x01\x02", 1), valued("v")}},
		{"a value and no child, beneath a Branch", api.Trie{branch(1, 1, 2, 3), branch(0, 2, 1, 3), valued("v"), leaf("", "w"), leaf("\x00", "x")}},
		{"no value and no child", api.Trie{branch()}},
		{"no value and no child, beneath an Ext", api.Trie{ext("\x01\x02", 1), branch()}},
		{"a value at the top: an empty key", api.Trie{valued("v", 1, 1), leaf("\x02", "w")}},
		{"a value at the top of many", changed(large(), 0, func(n *api.Node) { n.Has, n.Value = true, "x" })},
		{"an empty value at the top", changed(large(), 0, func(n *api.Node) { n.Has = true })},
		{"a value half a byte in", changed(large(), 1, func(n *api.Node) { n.Has, n.Value = true, "x" })},
		{"a Path", changed(large(), 4, func(n *api.Node) { n.Path = "\x02" })},
		{"a Path of a byte", changed(large(), 0, func(n *api.Node) { n.Path = "\x01\x02" })},
		{"its Ext's Path", api.Trie{{Kind: api.Branch, Path: "\x01", Kids: [16]int{2: 1, 3: 2}}, leaf("", "v"), leaf("", "w")}},
		{"a Value without Has", changed(large(), 0, func(n *api.Node) { n.Value = "x" })},
		{"a Value of a nought without Has", changed(small(), 1, func(n *api.Node) { n.Value = "\x00" })},
		{"a value of 17 bytes", changed(large(), 5, func(n *api.Node) { n.Value = longest + "g" })},
		{"its value gone, one child left", changed(large(), 5, func(n *api.Node) { n.Has, n.Value = false, "" })},
		{"its Has gone, its Value left", changed(large(), 5, func(n *api.Node) { n.Has = false })},
	} {
		checkNoTrie(t, x.name, x.nodes)
	}
}

// P10.1: fields that a Leaf has not, and those that it lacks.
func TestLeavesThatMayNotBe(t *testing.T) {
	one := api.Trie{leaf("\x01\x02", "v")}
	for _, x := range []struct {
		name  string
		nodes api.Trie
	}{
		{"no Has", changed(one, 0, func(n *api.Node) { n.Has = false })},
		{"no Has, no Value", changed(one, 0, func(n *api.Node) { n.Has, n.Value = false, "" })},
		{"no Has, of one of many", changed(large(), 8, func(n *api.Node) { n.Has, n.Value = false, "" })},
		{"a value of 17 bytes", changed(one, 0, func(n *api.Node) { n.Value = longest + "g" })},
		{"a value of 256 bytes", changed(one, 0, func(n *api.Node) { n.Value = strings.Repeat("v", 256) })},
		{"a value of 17 bytes, of one of many", changed(large(), 6, func(n *api.Node) { n.Value = longest + "g" })},
		{"a child", append(changed(one, 0, func(n *api.Node) { n.Kids[0] = 1 }), leaf("\x01\x02", "w"))},
		{"a child that is another one's", changed(small(), 2, func(n *api.Node) { n.Kids[0] = 3 })},
		{"no Path at the top: an empty key", api.Trie{leaf("", "v")}},
		{"no Path and no value at the top", api.Trie{leaf("", "")}},
	} {
		checkNoTrie(t, x.name, x.nodes)
	}
	for half := range 16 {
		checkNoTrie(t, "itself as a child", changed(one, 0, func(n *api.Node) { n.Kids[half] = 1 }))
	}
}

// P10.1: Paths that are not what the pairs have in common, or make no key of them.
func TestOtherPaths(t *testing.T) {
	for _, x := range []struct {
		name  string
		nodes api.Trie
	}{
		{"an odd key", api.Trie{leaf("\x01", "v")}},
		{"a longer odd key", api.Trie{leaf(repeated(1, 15), "v")}},
		{"odd keys beneath a Branch", api.Trie{branch(1, 1, 2, 2), leaf("", "v"), leaf("\x00\x00", "w")}},
		{"one odd key of two", api.Trie{branch(1, 1, 2, 2), leaf("\x00", "v"), leaf("\x00\x00", "w")}},
		{"an odd key that ends at a Branch", api.Trie{ext("\x01", 1), valued("v", 0, 2), leaf("", "w")}},
		{"an Ext a nibble longer, its keys odd", changed(small(), 0, func(n *api.Node) { n.Path = "\x01\x02" })},
		{"an Ext without its nibble, its keys odd", changed(small(), 0, func(n *api.Node) { n.Path = "" })},
		{"a nibble of a Leaf's Path left to a Branch above it", api.Trie{branch(1, 1), leaf("\x02\x03\x04", "v")}},
		{"what the pairs have in common left beneath the Branch", api.Trie{branch(1, 1), branch(2, 2, 3, 3), leaf("", "v"), leaf("", "w")}},
		{"half of it left beneath the Branch", api.Trie{ext("\x01", 1), branch(2, 2), branch(3, 3, 4, 4), leaf("\x00", "v"), leaf("\x00", "w")}},
		{"a Leaf's Path beneath a Branch of its own", api.Trie{branch(1, 1, 2, 3), branch(2, 2), leaf("", "v"), leaf("\x00", "w")}},
		{"a key of nine bytes", api.Trie{leaf(repeated(1, 18), "v")}},
		{"a nibble more than there may be", api.Trie{leaf(repeated(1, 17), "v")}},
		{"keys of nine bytes beneath an Ext", api.Trie{ext(repeated(1, 16), 1), branch(2, 2, 3, 3), leaf("\x00", "v"), leaf("\x00", "w")}},
		{"a key of nine bytes beneath one of eight", api.Trie{ext(repeated(1, 16), 1), valued("v", 2, 2), leaf("\x00", "w")}},
		{"keys of 17 nibbles", api.Trie{ext(repeated(1, 16), 1), branch(2, 2, 3, 3), leaf("", "v"), leaf("", "w")}},
		{"an Ext of 17 nibbles", api.Trie{ext(repeated(1, 17), 1), branch(2, 2, 3, 3), leaf("", "v"), leaf("", "w")}},
		{"one key of nine bytes of two", api.Trie{branch(1, 1, 2, 2), leaf(repeated(1, 17), "v"), leaf("\x00", "w")}},
		{"a Path of 256 nibbles", api.Trie{leaf(repeated(1, 256), "v")}},
		{"a Path of 272 nibbles", api.Trie{leaf(repeated(1, 272), "v")}},
		{"a Path of many nibbles", api.Trie{leaf(repeated(1, 1<<20), "v")}},
	} {
		checkNoTrie(t, x.name, x.nodes)
	}
	for b := 16; b < 256; b++ {
		above := string([]byte{byte(b)})
		for _, nodes := range []api.Trie{
			{leaf(above+"\x02", "v")},
			{leaf("\x01"+above, "v")},
			changed(small(), 0, func(n *api.Node) { n.Path = above }),
			changed(large(), 3, func(n *api.Node) { n.Path = above }),
			changed(large(), 8, func(n *api.Node) { n.Path = above }),
			{ext("\x01"+above, 1), branch(2, 2, 3, 3), leaf("\x00", "v"), leaf("\x00", "w")},
		} {
			checkNoTrie(t, "a nibble above 15", nodes)
		}
	}
}

// other is a node that differs from another one in one field alone.
type other struct {
	field string
	node  api.Node
}

// others has nodes that differ from n in one field alone, for each field.
func others(n api.Node) []other {
	var out []other
	put := func(field string, change func(n *api.Node)) {
		x := other{field, n}
		change(&x.node)
		out = append(out, x)
	}
	put("Kind", func(n *api.Node) { n.Kind++ })
	put("Kind, far away", func(n *api.Node) { n.Kind += 256 })
	put("Path, longer", func(n *api.Node) { n.Path += "\x00" })
	put("Path, its end", func(n *api.Node) { n.Path = n.Path[:max(0, len(n.Path)-1)] + "\x0e" })
	put("Has", func(n *api.Node) { n.Has = !n.Has })
	put("Value, longer", func(n *api.Node) { n.Value += "\x00" })
	put("Value, its end", func(n *api.Node) { n.Value = n.Value[:max(0, len(n.Value)-1)] + "z" })
	for half := range n.Kids {
		name := "Kids of " + strconv.Itoa(half)
		put(name, func(n *api.Node) { n.Kids[half]++ })
		put(name+", below 0", func(n *api.Node) { n.Kids[half] = -1 - n.Kids[half] })
		put(name+", far away", func(n *api.Node) { n.Kids[half] += 1 << 32 })
	}
	return out
}

// P10.1, Same: two that differ in one field of one node alone, in each field, and two that are alike, be they tries or not.
func TestSame(t *testing.T) {
	for _, nodes := range []api.Trie{{leaf("\x01\x02", "v")}, small(), large(), {{}}, {{Kind: 9, Path: "no nibbles", Value: "no value"}, ext("", -1)}} {
		if !trie.Same(nodes, copied(nodes)) || !trie.Same(copied(nodes), nodes) {
			t.Errorf("Same tells %#v from itself", nodes)
		}
		for at := range nodes {
			for _, x := range others(nodes[at]) {
				unlike := copied(nodes)
				unlike[at] = x.node
				if trie.Same(nodes, unlike) || trie.Same(unlike, nodes) {
					t.Errorf("Same does not tell %#v and %#v apart, by %s of %d", nodes[at], x.node, x.field, at)
				}
			}
			if trie.Same(nodes, nodes[:at]) || trie.Same(nodes[:at], nodes) {
				t.Errorf("Same does not tell %#v from its first %d", nodes, at)
			}
		}
		for _, more := range []api.Node{{}, nodes[len(nodes)-1], leaf("", "")} {
			if trie.Same(nodes, append(copied(nodes), more)) || trie.Same(append(copied(nodes), more), nodes) {
				t.Errorf("Same does not tell %#v from one with %#v behind it", nodes, more)
			}
		}
	}
	if trie.Same(api.Trie{small()[0], small()[1]}, api.Trie{small()[1], small()[0]}) {
		t.Error("Same does not ask for the order")
	}
	if trie.Same(nil, api.Trie{{}}) || trie.Same(api.Trie{{}}, nil) {
		t.Error("Same does not tell no nodes from one of nothing")
	}
}
