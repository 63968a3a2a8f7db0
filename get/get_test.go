package get_test

import (
	"slices"
	"strings"
	"testing"

	"umbel/api"
	"umbel/get"
	"umbel/sample"
	"umbel/trie"
)

// Nodes are written out in lists: their samples go by short names.
const longest = sample.Longest

var (
	pairs  = sample.Pairs
	leaf   = sample.Leaf
	ext    = sample.Ext
	branch = sample.Branch
	valued = sample.Valued
	large  = sample.Large
)

// has is the answer of a key that is there.
func has(value string) api.Answer {
	return api.Answer{Has: true, Value: value}
}

// build has the trie of pairs that may be.
func build(t *testing.T, l []api.Pair) api.Trie {
	t.Helper()
	nodes, ok := trie.Build(l)
	if !ok {
		t.Fatalf("there is no trie of %q", l)
	}
	return nodes
}

// checkWay holds both calls to a key's way and answer.
func checkWay(t *testing.T, name string, nodes api.Trie, key string, way []int, want api.Answer) {
	t.Helper()
	if got, e := get.Walk(nodes, key); !slices.Equal(got, way) || e != api.OK {
		t.Errorf("%s: Walk(%#v, %x) = %d, %d, want %d, OK", name, nodes, key, got, e, way)
	}
	if got, e := get.Of(nodes, key); got != want || e != api.OK {
		t.Errorf("%s: Of(%#v, %x) = %#v, %d, want %#v, OK", name, nodes, key, got, e, want)
	}
}

// checkRefused holds both calls to an error, beside which there is nothing.
func checkRefused(t *testing.T, name string, nodes api.Trie, key string, want api.Errno) {
	t.Helper()
	if got, e := get.Walk(nodes, key); len(got) != 0 || e != want {
		t.Errorf("%s: Walk(%d nodes, %.20x) = %d, %d, want nothing and %d", name, len(nodes), key, got, e, want)
	}
	if got, e := get.Of(nodes, key); got != (api.Answer{}) || e != want {
		t.Errorf("%s: Of(%d nodes, %.20x) = %#v, %d, want nothing and %d", name, len(nodes), key, got, e, want)
	}
}

// The tests' bounds are those that api's limits make.
func TestBounds(t *testing.T) {
	if len(longest) != api.MaxValue || api.MaxKey != 8 {
		t.Fatalf("values have up to %d bytes, keys up to %d", api.MaxValue, api.MaxKey)
	}
}

// P12.1, the chapter's example: of no nodes: nothing, and no way; nil and empty lists are one (rule 2).
func TestExample(t *testing.T) {
	for _, nodes := range []api.Trie{nil, {}, make(api.Trie, 0, 4), large()[:0]} {
		for _, key := range []string{"\x00", "\x12", "a", "12345678", "\xff\xff\xff\xff\xff\xff\xff\xff"} {
			checkWay(t, "no nodes", nodes, key, nil, api.Answer{})
		}
	}
}

// P12.1: each way that there is in a trie, and each that leads no further: in a Branch without such a child, a Branch where the key ends, an Ext with another Path or a longer one, a Leaf with another, a longer, a shorter one.
func TestByHand(t *testing.T) {
	for _, x := range []struct {
		name, key string
		way       []int
		want      api.Answer
	}{
		{"a Leaf without a Path", "\x10", []int{0, 1, 2}, has("a")},
		{"a value of a Branch", "\x11\x20", []int{0, 1, 3, 4, 5}, has("b")},
		{"a Leaf beneath a value", "\x11\x20\x30", []int{0, 1, 3, 4, 5, 6}, has("e")},
		{"beside it", "\x11\x21", []int{0, 1, 3, 4, 7}, has("c")},
		{"a Leaf with a Path", "\x40", []int{0, 8}, has("d")},
		{"no such child at the top", "\x00", []int{0}, api.Answer{}},
		{"no such child at the top, the last one", "\xff", []int{0}, api.Answer{}},
		{"no such child in the midst", "\x12", []int{0, 1}, api.Answer{}},
		{"no such child of the lowest Branch without a value", "\x11\x22", []int{0, 1, 3, 4}, api.Answer{}},
		{"no such child of the Branch with a value", "\x11\x20\x40", []int{0, 1, 3, 4, 5}, api.Answer{}},
		{"the key ends at an Ext", "\x11", []int{0, 1, 3}, api.Answer{}},
		{"an Ext with another Path", "\x11\x30", []int{0, 1, 3}, api.Answer{}},
		{"an Ext with another Path, one less", "\x11\x1f", []int{0, 1, 3}, api.Answer{}},
		{"a Leaf with another Path", "\x41", []int{0, 8}, api.Answer{}},
		{"a Leaf with another Path, the last one", "\x4f", []int{0, 8}, api.Answer{}},
		{"a Leaf with another Path, far down", "\x11\x20\x31", []int{0, 1, 3, 4, 5, 6}, api.Answer{}},
		{"a Leaf with a shorter Path", "\x40\x00", []int{0, 8}, api.Answer{}},
		{"a Leaf without a Path, where the key goes on", "\x10\x00", []int{0, 1, 2}, api.Answer{}},
		{"a Leaf without a Path, where the longest key goes on", "\x11\x21\x00\x00\x00\x00\x00\x00", []int{0, 1, 3, 4, 7}, api.Answer{}},
	} {
		checkWay(t, x.name, large(), x.key, x.way, x.want)
	}
}

// P12.1: an Ext at the top, whose Path the key begins with, or ends in, or leaves at each of its nibbles; a Leaf alone likewise.
func TestTheFirstNode(t *testing.T) {
	top := api.Trie{ext("\x01\x02\x03\x04", 1), valued("v", 0, 2), leaf("\x07\x05\x06", "w")}
	one := api.Trie{leaf("\x01\x02\x03\x04", "v")}
	for _, x := range []struct {
		key     string
		ways    [2][]int
		answers [2]api.Answer
	}{
		{"\x12\x34", [2][]int{{0, 1}, {0}}, [2]api.Answer{has("v"), has("v")}},
		{"\x12\x34\x07\x56", [2][]int{{0, 1, 2}, {0}}, [2]api.Answer{has("w"), {}}},
		{"\x12\x34\x07", [2][]int{{0, 1, 2}, {0}}, [2]api.Answer{}},
		{"\x12\x34\x07\x56\x00", [2][]int{{0, 1, 2}, {0}}, [2]api.Answer{}},
		{"\x12\x34\x70", [2][]int{{0, 1}, {0}}, [2]api.Answer{}},
		{"\x12", [2][]int{{0}, {0}}, [2]api.Answer{}},
		{"\x02\x34", [2][]int{{0}, {0}}, [2]api.Answer{}},
		{"\x13\x34", [2][]int{{0}, {0}}, [2]api.Answer{}},
		{"\x12\x44", [2][]int{{0}, {0}}, [2]api.Answer{}},
		{"\x12\x35", [2][]int{{0}, {0}}, [2]api.Answer{}},
		{"\x34\x07", [2][]int{{0}, {0}}, [2]api.Answer{}},
	} {
		checkWay(t, "an Ext at the top", top, x.key, x.ways[0], x.answers[0])
		checkWay(t, "a Leaf alone", one, x.key, x.ways[1], x.answers[1])
	}
}

// P12.1: a Branch's child of each nibble, at the top and beneath an Ext: each key of one byte, and each of one byte more.
func TestEachNibble(t *testing.T) {
	var l []api.Pair
	for b := range 256 {
		l = append(l, api.Pair{Key: string([]byte{byte(b)}), Value: string([]byte{byte(255 - b)})})
	}
	nodes := build(t, l)
	for b := range 256 {
		// Each Branch beneath the top has 16 Leaves behind it.
		above := 1 + b/16*17
		checkWay(t, "each byte", nodes, l[b].Key, []int{0, above, above + 1 + b%16}, has(l[b].Value))
		checkWay(t, "a byte more", nodes, l[b].Key+"\x00", []int{0, above, above + 1 + b%16}, api.Answer{})
	}
	for half := range 16 {
		two := build(t, pairs("\xa5", "above", "\xa5"+string([]byte{byte(half * 16)}), "beneath"))
		for other := range 16 {
			way, want := []int{0, 1}, api.Answer{}
			if other == half {
				way, want = []int{0, 1, 2}, has("beneath")
			}
			checkWay(t, "one child", two, "\xa5"+string([]byte{byte(other * 16)}), way, want)
		}
	}
}

// P12.1: values of each length: one that is empty is there; so is one of bytes 0.
func TestValues(t *testing.T) {
	for size := range api.MaxValue + 1 {
		for _, value := range []string{longest[:size], strings.Repeat("\x00", size), strings.Repeat("\xff", size)} {
			nodes := build(t, pairs("k", value, "k1", value+longest[:api.MaxValue-size]))
			checkWay(t, "a Branch's value", nodes, "k", []int{0, 1}, has(value))
			checkWay(t, "a Leaf's value", nodes, "k1", []int{0, 1, 2}, has(value+longest[:api.MaxValue-size]))
			checkWay(t, "no value", nodes, "k2", []int{0, 1, 2}, api.Answer{})
		}
	}
}

// P12.1: keys of 1 to MaxKey bytes are asked; of others ErrKey, also where a key that is there begins them, and of no nodes.
func TestKeysLengths(t *testing.T) {
	eight := "\x12\x34\x56\x78\x9a\xbc\xde\xf0"
	tries := []api.Trie{nil, large(), build(t, pairs(eight, "v")), build(t, pairs(eight[:1], "a", eight[:7], "b", eight, "c"))}
	for _, nodes := range tries {
		for size := 1; size <= api.MaxKey; size++ {
			if _, e := get.Of(nodes, eight[:size]); e != api.OK {
				t.Errorf("Of(%#v, %x): %d", nodes, eight[:size], e)
			}
		}
		checkRefused(t, "no bytes", nodes, "", api.ErrKey)
		for _, more := range []int{1, 2, 7, 8, 9, 247, 248, 249, 256, 1<<16 - 8, 1 << 16, 1 << 20} {
			checkRefused(t, "too many bytes", nodes, eight+strings.Repeat("\x00", more), api.ErrKey)
		}
	}
	last := len(tries) - 1
	checkWay(t, "a longest key", tries[last-1], eight, []int{0}, has("v"))
	checkWay(t, "the longest of three", tries[last], eight, []int{0, 1, 2, 3, 4}, has("c"))
	checkWay(t, "the shortest of three", tries[last], eight[:1], []int{0, 1}, has("a"))
	checkWay(t, "in the midst of an Ext", tries[last], eight[:4], []int{0, 1, 2}, api.Answer{})
}

// P12.1: nodes that are no trie: ErrArg, ahead of ErrKey (rule 3), also where what is wrong stands beside the key's way.
func TestNoTries(t *testing.T) {
	for name, nodes := range sample.Wrong() {
		for _, key := range []string{"\x10", "\x11\x20", "\x11\x20\x30", "\x11\x21", "\x40", "\x99", "", "123456789", strings.Repeat("\x11", 1<<16)} {
			checkRefused(t, name, nodes, key, api.ErrArg)
		}
	}
}
