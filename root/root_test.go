package root_test

import (
	"crypto/sha256"
	"encoding/hex"
	"math"
	"reflect"
	"strings"
	"testing"

	"umbel/api"
	"umbel/root"
	"umbel/sample"
	"umbel/trie"
)

// Nodes are written out in lists: their samples go by short names.
const longest = sample.Longest

var (
	pairs  = sample.Pairs
	leaf   = sample.Leaf
	ext    = sample.Ext
	branch = sample.Branch
	valued = sample.Valued
)

// hashed is the library's SHA-256 of a text.
func hashed(text string) string {
	h := sha256.Sum256([]byte(text))
	return string(h[:])
}

func copied(t api.Trie) api.Trie {
	return append(api.Trie(nil), t...)
}

func sameItem(a, b api.Item) bool {
	if len(a.Hashes) == 0 && len(b.Hashes) == 0 {
		a.Hashes, b.Hashes = nil, nil
	}
	return reflect.DeepEqual(a, b)
}

func sameHashes(a, b []string) bool {
	return len(a) == 0 && len(b) == 0 || reflect.DeepEqual(a, b)
}

// beside has numbers that no node of so many has.
func beside(count int) []int {
	return []int{-1, -2, -count, count, count + 1, 2*count + 1, 1 << 31, 1 << 40, 1 << 62, math.MaxInt, math.MinInt}
}

// checkRoot holds all calls to nodes that are a trie, and to the Items and hashes that these have.
func checkRoot(t *testing.T, name string, nodes api.Trie, items []api.Item, hashes []string) {
	t.Helper()
	want := root.Empty()
	if len(hashes) > 0 {
		want = hashes[0]
	}
	if got, ok := root.Of(nodes); got != want || !ok {
		t.Errorf("%s: Of(%#v) = %x, %v, want %x, true", name, nodes, got, ok, want)
	}
	if got, ok := root.All(nodes); !sameHashes(got, hashes) || !ok {
		t.Errorf("%s: All(%#v) = %x, %v, want %x, true", name, nodes, got, ok, hashes)
	}
	if len(items) != len(nodes) {
		t.Fatalf("%s: %d Items are said of %d nodes", name, len(items), len(nodes))
	}
	for i := range items {
		if got, ok := root.Item(nodes, i); !sameItem(got, items[i]) || !ok {
			t.Errorf("%s: Item(%#v, %d) = %#v, %v, want %#v, true", name, nodes, i, got, ok, items[i])
		}
	}
	for _, i := range beside(len(nodes)) {
		checkNoItem(t, name, nodes, i)
	}
}

// checkNoItem holds Item to a node that there is none of.
func checkNoItem(t *testing.T, name string, nodes api.Trie, i int) {
	t.Helper()
	if got, ok := root.Item(nodes, i); !sameItem(got, api.Item{}) || ok {
		t.Errorf("%s: Item(%d nodes, %d) = %#v, %v, want nothing and false", name, len(nodes), i, got, ok)
	}
}

// checkNoTrie holds all calls to nodes that are no trie.
func checkNoTrie(t *testing.T, name string, nodes api.Trie) {
	t.Helper()
	if got, ok := root.Of(nodes); got != "" || ok {
		t.Errorf("%s: Of(%#v) = %x, %v, want nothing and false", name, nodes, got, ok)
	}
	if got, ok := root.All(nodes); len(got) != 0 || ok {
		t.Errorf("%s: All(%#v) = %x, %v, want nothing and false", name, nodes, got, ok)
	}
	for i := range nodes {
		checkNoItem(t, name, nodes, i)
	}
	for _, i := range beside(len(nodes)) {
		checkNoItem(t, name, nodes, i)
	}
}

// The tests' bounds are those that api's limits make.
func TestBounds(t *testing.T) {
	if len(longest) != api.MaxValue || api.MaxKey != 8 || api.HashSize != 32 {
		t.Fatalf("values have up to %d bytes, keys up to %d, hashes %d", api.MaxValue, api.MaxKey, api.HashSize)
	}
}

// P11.1, the chapter's example: of no nodes 6e340b9c..: the digest of one byte 0; nil and empty lists are one (rule 2).
func TestExample(t *testing.T) {
	want := "6e340b9cffb37a989ca544e6bb780a2c78901d3fb33738768511a30617afa01d"
	if got := hex.EncodeToString([]byte(root.Empty())); got != want || root.Empty() != hashed("\x00") {
		t.Errorf("Empty() = %s, want %s", got, want)
	}
	for _, nodes := range []api.Trie{nil, {}, make(api.Trie, 0, 4)} {
		if got, ok := root.Of(nodes); hex.EncodeToString([]byte(got)) != want || !ok {
			t.Errorf("Of no nodes is %x, %v, want %s, true", got, ok, want)
		}
		checkRoot(t, "no nodes", nodes, nil, nil)
		checkNoItem(t, "no nodes", nodes, 0)
	}
}

// P11.1: roots that are known, so that they are not held against the tests' own model alone.
func TestKnownRoots(t *testing.T) {
	for _, x := range []struct {
		l    []api.Pair
		want string
	}{
		{pairs("key", "value"), "e99f62342ffcb71e7b008630e2b3c70008cc576e066656fa16bb2d60f6750f1d"},
		{pairs("\x12", "v", "\x12\x00", "w"), "cb2c325a04d1137b4fa8a2f4fc8360d294661cf4052a5dd1736996880b441b18"},
		{pairs("\x10", "a", "\x11\x20", "b", "\x11\x21", "c", "\x40", "d"), "4979ae84888039f6f52f1bfd2fccb0f7b50aad4d2ffaf17665cf12d57528c57b"},
	} {
		nodes, _ := trie.Build(x.l)
		if got, ok := root.Of(nodes); hex.EncodeToString([]byte(got)) != x.want || !ok {
			t.Errorf("Of the trie of %q is %x, %v, want %s, true", x.l, got, ok, x.want)
		}
	}
}

// P11.1: one node of each Kind with others beneath it: each Item and each hash, its text written out.
func TestByHand(t *testing.T) {
	nodes := api.Trie{ext("\x01", 1), valued("v", 0, 2, 15, 3), leaf("\x02", ""), branch(4, 4, 10, 5), leaf("", "x"), leaf("\x03\x04", "yz")}
	h := make([]string, 6)
	h[5] = hashed("\x01\x02\x34\x02yz")
	h[4] = hashed("\x01\x00\x01x")
	h[3] = hashed("\x03\x04\x10\x00" + h[4] + h[5])
	h[2] = hashed("\x01\x01\x20\x00")
	h[1] = hashed("\x03\x80\x01\x01\x01v" + h[2] + h[3])
	h[0] = hashed("\x02\x01\x10" + h[1])
	items := []api.Item{
		{Kind: api.Ext, Path: "\x01", Mask: 1, Hashes: []string{h[1]}},
		{Kind: api.Branch, Has: true, Value: "v", Mask: 0x8001, Hashes: []string{h[2], h[3]}},
		{Kind: api.Leaf, Path: "\x02", Has: true},
		{Kind: api.Branch, Mask: 0x0410, Hashes: []string{h[4], h[5]}},
		{Kind: api.Leaf, Has: true, Value: "x"},
		{Kind: api.Leaf, Path: "\x03\x04", Has: true, Value: "yz"},
	}
	// A key of an odd number of nibbles is none: these nodes are as they should be but for that.
	checkNoTrie(t, "odd keys", nodes)
	nodes[0].Path, items[0].Path = "\x01\x0c", "\x01\x0c"
	h[0] = hashed("\x02\x02\x1c" + h[1])
	checkRoot(t, "by hand", nodes, items, h)
}

// P11.1: one pair, its key of each length, its value of each.
func TestOnePair(t *testing.T) {
	for size := 1; size <= api.MaxKey; size++ {
		for _, b := range []byte{0x00, 0x0f, 0x10, 0x7f, 0x80, 0xff} {
			path := strings.Repeat(string([]byte{b / 16, b % 16}), size)
			text := "\x01" + string([]byte{byte(2 * size)}) + strings.Repeat(string([]byte{b}), size) + "\x01v"
			checkRoot(t, "a key's length", api.Trie{leaf(path, "v")}, []api.Item{{Kind: api.Leaf, Path: path, Has: true, Value: "v"}}, []string{hashed(text)})
		}
	}
	for size := range api.MaxValue + 1 {
		text := "\x01\x02\x6b" + string([]byte{byte(size)}) + longest[:size]
		checkRoot(t, "a value's length", api.Trie{leaf("\x06\x0b", longest[:size])}, []api.Item{{Kind: api.Leaf, Path: "\x06\x0b", Has: true, Value: longest[:size]}}, []string{hashed(text)})
	}
}

// P11.1: a bit of Mask for each child, and their hashes, rising: each two children, and all sixteen, without a value and with one.
func TestMasks(t *testing.T) {
	for one := range 16 {
		for other := range one {
			checkBranch(t, 1<<one|1<<other)
		}
		checkBranch(t, 1<<one)
		checkBranch(t, 0xffff)
		checkBranch(t, 0xffff^1<<one)
		checkBranch(t, 0xffff>>one)
		checkBranch(t, 0xffff<<one&0xffff)
	}
}

// checkBranch holds all calls to a Branch that has these children, each a Leaf of another value; a single one has a value beside it.
func checkBranch(t *testing.T, mask int) {
	t.Helper()
	for _, value := range []string{"", longest} {
		var l []api.Pair
		for half := range 16 {
			if mask>>half&1 == 1 {
				l = append(l, pairs(string([]byte{0xa0, byte(half * 16)}), longest[half:])...)
			}
		}
		checkPairs(t, "a Branch with a value", sample.With(l, api.Pair{Key: "\xa0", Value: value}))
		checkPairs(t, "a Branch without one", l)
	}
}

// P11.1: false of nodes that are no trie: what the nodes are wrong in stands at the first, in the middle, at the last.
func TestNoTries(t *testing.T) {
	good := api.Trie{ext("\x01\x02", 1), valued("v", 0, 2, 3, 3), leaf("\x05", "w"), branch(1, 4, 15, 5), leaf("", "x"), leaf("\x07\x08", "y")}
	if _, ok := root.Of(good); !ok {
		t.Fatal("the trie that others are made of is none")
	}
	for at, n := range good {
		for _, x := range wrong(n, at) {
			bad := copied(good)
			bad[at] = x.node
			checkNoTrie(t, x.what, bad)
		}
	}
	for at := 1; at < len(good); at++ {
		checkNoTrie(t, "cut short", good[:at])
		// The last node alone would be a trie of its own.
		checkNoTrie(t, "without its beginning", append(copied(good[at:]), leaf("\x01", "")))
	}
	checkNoTrie(t, "a node too many", append(copied(good), leaf("\x01\x02", "z")))
	checkNoTrie(t, "an empty node too many", append(copied(good), api.Node{}))
	checkNoTrie(t, "nothing but an empty node", make(api.Trie, 1))
	checkNoTrie(t, "a key of no bytes", api.Trie{leaf("", "v")})
	checkNoTrie(t, "an odd key", api.Trie{leaf("\x01", "v")})
	checkNoTrie(t, "a key of nine bytes", api.Trie{leaf(strings.Repeat("\x01", 18), "v")})
	checkNoTrie(t, "children not in preorder", api.Trie{valued("v", 0, 2, 1, 1), leaf("\x01", "a"), leaf("\x01", "b")})
	checkNoTrie(t, "its own child", api.Trie{branch(0, 0, 1, 1), leaf("\x01", "a")})
	checkNoTrie(t, "one child twice", api.Trie{ext("\x01\x02", 1), branch(0, 2, 1, 2), leaf("\x01", "a")})
}

type change struct {
	what string
	node api.Node
}

// wrong has what the node at a place of that trie may not be: each change makes a node or a key that may not be, or leaves a node without one that leads to it.
func wrong(n api.Node, at int) []change {
	var out []change
	add := func(what string, with func(*api.Node)) {
		x := n
		with(&x)
		if x != n {
			out = append(out, change{what, x})
		}
	}
	for _, kind := range []int{0, -1, 4, api.Leaf, api.Ext, api.Branch, math.MaxInt, math.MinInt, api.Leaf + 256} {
		add("a Kind", func(n *api.Node) { n.Kind = kind })
	}
	add("Has turned", func(n *api.Node) { n.Has = !n.Has })
	add("too long a value", func(n *api.Node) { n.Value = longest + "!" })
	add("a nibble more", func(n *api.Node) { n.Path += "\x01" })
	add("a byte that is no nibble", func(n *api.Node) { n.Path += "\x10\x10" })
	add("far too many nibbles", func(n *api.Node) { n.Path += strings.Repeat("\x01", 18) })
	for half, kid := range n.Kids {
		for _, to := range []int{0, 1, at, at + 1, at + 2, 5, 6, -1, -kid, 1 << 40, math.MaxInt, math.MinInt} {
			add("a child", func(n *api.Node) { n.Kids[half] = to })
		}
	}
	return out
}
