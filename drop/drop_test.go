package drop_test

import (
	"slices"
	"strings"
	"testing"

	"umbel/api"
	"umbel/drop"
	"umbel/sample"
)

// Nodes are written out in lists: their samples go by short names.
const longest = sample.Longest

var (
	pairs  = sample.Pairs
	leaf   = sample.Leaf
	ext    = sample.Ext
	branch = sample.Branch
	valued = sample.Valued
	large  = sample.Large
)

// checkDrop holds the call to what becomes of nodes when a pair that they have is dropped; behind that it is not there any more.
func checkDrop(t *testing.T, name string, nodes api.Trie, key string, want api.Trie) {
	t.Helper()
	if got, was, e := drop.Of(nodes, key); !slices.Equal(got, want) || !was || e != api.OK {
		t.Errorf("%s: Of(%#v, %x) = %#v, %t, %d, want %#v, true, OK", name, nodes, key, got, was, e, want)
	}
	checkAbsent(t, name, want, key)
}

// checkAbsent holds the call to the same nodes, of a key that they have not.
func checkAbsent(t *testing.T, name string, nodes api.Trie, key string) {
	t.Helper()
	if got, was, e := drop.Of(nodes, key); !slices.Equal(got, nodes) || was || e != api.OK {
		t.Errorf("%s: Of(%#v, %x) = %#v, %t, %d, want the same nodes, false, OK", name, nodes, key, got, was, e)
	}
}

// checkRefused holds the call to an error, beside which there is nothing.
func checkRefused(t *testing.T, name string, nodes api.Trie, key string, want api.Errno) {
	t.Helper()
	if got, was, e := drop.Of(nodes, key); len(got) != 0 || was || e != want {
		t.Errorf("%s: Of(%d nodes, %.20x) = %#v, %t, %d, want nothing and %d", name, len(nodes), key, got, was, e, want)
	}
}

// The tests' bounds are those that api's limits make.
func TestBounds(t *testing.T) {
	if len(longest) != api.MaxValue || api.MaxKey != 8 {
		t.Fatalf("values have up to %d bytes, keys up to %d", api.MaxValue, api.MaxKey)
	}
}

// P14.1, the chapter's example: the only one: no nodes; of none there is none, and nil and empty lists are one (rule 2).
func TestExample(t *testing.T) {
	checkDrop(t, "the only one", api.Trie{leaf("\x01\x02", "v")}, "\x12", nil)
	checkDrop(t, "the only one", api.Trie{leaf("\x00\x00", "")}, "\x00", nil)
	checkDrop(t, "the only one", api.Trie{leaf("\x0f\x0e\x0d\x0c\x0b\x0a\x09\x08\x07\x06\x05\x04\x03\x02\x01\x00", longest)}, "\xfe\xdc\xba\x98\x76\x54\x32\x10", nil)
	for _, nodes := range []api.Trie{nil, {}, make(api.Trie, 0, 4), large()[:0]} {
		for _, key := range []string{"\x00", "\x12", "\xfe\xdc\xba\x98\x76\x54\x32\x10"} {
			checkAbsent(t, "no nodes", nodes, key)
		}
	}
}

// P14.1: one of two ways goes, a Leaf is left: it has the nibble and what was above as its Path.
func TestALeafIsLeft(t *testing.T) {
	for _, x := range []struct {
		name  string
		nodes api.Trie
		key   string
		want  api.Trie
	}{
		{"the second, at the top", api.Trie{branch(0, 1, 15, 2), leaf("\x02\x03\x04", "v"), leaf("\x00", "w")}, "\xf0", api.Trie{leaf("\x00\x02\x03\x04", "v")}},
		{"the first, at the top", api.Trie{branch(0, 1, 15, 2), leaf("\x02\x03\x04", "v"), leaf("\x00", "w")}, "\x02\x34", api.Trie{leaf("\x0f\x00", "w")}},
		{"beneath an Ext", api.Trie{ext("\x01\x02\x03", 1), branch(3, 2, 4, 3), leaf("", "w"), leaf("\x05\x06", "v")}, "\x12\x33", api.Trie{leaf("\x01\x02\x03\x04\x05\x06", "v")}},
		{"beneath an Ext, without a Path of its own", api.Trie{ext("\x01\x02\x03", 1), branch(3, 2, 4, 3), leaf("", ""), leaf("\x05\x06", "v")}, "\x12\x34\x56", api.Trie{leaf("\x01\x02\x03\x03", "")}},
		{"beneath a Branch", api.Trie{branch(1, 1, 2, 4), branch(0, 2, 1, 3), leaf("", "a"), leaf("\x03\x04", "b"), leaf("\x00", "c")}, "\x10", api.Trie{branch(1, 1, 2, 2), leaf("\x01\x03\x04", "b"), leaf("\x00", "c")}},
		{"beneath a Branch and an Ext", api.Trie{branch(1, 1, 2, 5), ext("\x03", 2), branch(5, 3, 7, 4), leaf("\x01", "a"), leaf("\x02", "b"), leaf("\x00", "c")}, "\x13\x51", api.Trie{branch(1, 1, 2, 2), leaf("\x03\x07\x02", "b"), leaf("\x00", "c")}},
		{"a Branch's value goes", api.Trie{ext("\x01\x02", 1), valued("v", 3, 2), leaf("\x04", "w")}, "\x12", api.Trie{leaf("\x01\x02\x03\x04", "w")}},
		{"a Branch's value is left", api.Trie{ext("\x01\x02", 1), valued("v", 3, 2), leaf("\x04", "w")}, "\x12\x34", api.Trie{leaf("\x01\x02", "v")}},
		{"a Branch's empty value is left", api.Trie{ext("\x01\x02", 1), valued("", 0, 2), leaf("\x00", "w")}, "\x12\x00", api.Trie{leaf("\x01\x02", "")}},
		{"a Branch's value is left beneath a Branch", api.Trie{ext("\x01", 1), branch(1, 2, 2, 4), valued("a", 0, 3), leaf("\x00", "b"), leaf("", "c")}, "\x11\x00", api.Trie{ext("\x01", 1), branch(1, 2, 2, 3), leaf("", "a"), leaf("", "c")}},
		{"a Branch's value is left in the midst", api.Trie{ext("\x01\x02", 1), valued("v", 3, 2), ext("\x04", 3), valued("w", 0, 4), leaf("\x00", "x")}, "\x12\x34\x00", api.Trie{ext("\x01\x02", 1), valued("v", 3, 2), leaf("\x04", "w")}},
	} {
		checkDrop(t, x.name, x.nodes, x.key, x.want)
	}
}

// P14.1: one of two ways goes, and there is more beneath the one that is left: an Ext with the nibble, what was above and what was beneath.
func TestMoreIsLeft(t *testing.T) {
	for _, x := range []struct {
		name  string
		nodes api.Trie
		key   string
		want  api.Trie
	}{
		{"a Branch, at the top", api.Trie{branch(1, 1, 2, 2), leaf("\x00", "a"), branch(3, 3, 4, 4), leaf("", "b"), leaf("", "c")}, "\x10", api.Trie{ext("\x02", 1), branch(3, 2, 4, 3), leaf("", "b"), leaf("", "c")}},
		{"a Branch, at the top, the last goes", api.Trie{branch(1, 1, 2, 4), branch(3, 2, 4, 3), leaf("", "b"), leaf("", "c"), leaf("\x00", "a")}, "\x20", api.Trie{ext("\x01", 1), branch(3, 2, 4, 3), leaf("", "b"), leaf("", "c")}},
		{"a Branch of nibble 0", api.Trie{branch(0, 1, 1, 4), branch(3, 2, 4, 3), leaf("", "b"), leaf("", "c"), leaf("\x00", "a")}, "\x10", api.Trie{ext("\x00", 1), branch(3, 2, 4, 3), leaf("", "b"), leaf("", "c")}},
		{"an Ext, at the top", api.Trie{branch(1, 1, 15, 2), leaf("\x00", "a"), ext("\x07\x08", 3), branch(3, 4, 4, 5), leaf("", "b"), leaf("", "c")}, "\x10", api.Trie{ext("\x0f\x07\x08", 1), branch(3, 2, 4, 3), leaf("", "b"), leaf("", "c")}},
		{"a Branch beneath an Ext", api.Trie{ext("\x05\x06", 1), branch(1, 2, 2, 3), leaf("\x00", "a"), branch(3, 4, 4, 5), leaf("\x00\x00", "b"), leaf("\x00\x00", "c")}, "\x56\x10", api.Trie{ext("\x05\x06\x02", 1), branch(3, 2, 4, 3), leaf("\x00\x00", "b"), leaf("\x00\x00", "c")}},
		{"an Ext beneath an Ext", api.Trie{ext("\x05\x06", 1), branch(1, 2, 2, 3), leaf("\x00", "a"), ext("\x09\x0a", 4), branch(3, 5, 4, 6), leaf("", "b"), leaf("", "c")}, "\x56\x10", api.Trie{ext("\x05\x06\x02\x09\x0a", 1), branch(3, 2, 4, 3), leaf("", "b"), leaf("", "c")}},
		{"a Branch beneath a Branch", api.Trie{branch(1, 1, 9, 6), branch(0, 2, 1, 3), leaf("", "a"), branch(3, 4, 4, 5), leaf("\x00", "b"), leaf("\x00", "c"), leaf("\x00", "d")}, "\x10", api.Trie{branch(1, 1, 9, 5), ext("\x01", 2), branch(3, 3, 4, 4), leaf("\x00", "b"), leaf("\x00", "c"), leaf("\x00", "d")}},
		{"a Branch's value goes, a Branch is left", api.Trie{ext("\x05\x06", 1), valued("a", 2, 2), branch(3, 3, 4, 4), leaf("", "b"), leaf("", "c")}, "\x56", api.Trie{ext("\x05\x06\x02", 1), branch(3, 2, 4, 3), leaf("", "b"), leaf("", "c")}},
		{"a Branch's value goes, an Ext is left", api.Trie{ext("\x05\x06", 1), valued("a", 2, 2), ext("\x07", 3), valued("b", 3, 4), leaf("\x00", "c")}, "\x56", api.Trie{ext("\x05\x06\x02\x07", 1), valued("b", 3, 2), leaf("\x00", "c")}},
		{"a Branch with a value is left", api.Trie{branch(1, 1, 2, 2), leaf("\x00", "a"), ext("\x03", 3), valued("b", 4, 4), leaf("\x05", "c")}, "\x10", api.Trie{ext("\x02\x03", 1), valued("b", 4, 2), leaf("\x05", "c")}},
	} {
		checkDrop(t, x.name, x.nodes, x.key, x.want)
	}
}

// P14.1: where two ways and more are left, the Branch stays; the numbers of those behind what goes move.
func TestABranchStays(t *testing.T) {
	top := api.Trie{ext("\x01\x02", 1), valued("v", 0, 2, 7, 3, 15, 6), leaf("\x00", "a"), branch(3, 4, 4, 5), leaf("", "b"), leaf("", "c"), leaf("\x0f", "d")}
	for _, x := range []struct {
		name, key string
		want      api.Trie
	}{
		{"its value", "\x12", api.Trie{top[0], branch(0, 2, 7, 3, 15, 6), top[2], top[3], top[4], top[5], top[6]}},
		{"its first child", "\x12\x00", api.Trie{top[0], valued("v", 7, 2, 15, 5), branch(3, 3, 4, 4), top[4], top[5], top[6]}},
		{"its last child", "\x12\xff", api.Trie{top[0], valued("v", 0, 2, 7, 3), top[2], top[3], top[4], top[5]}},
		{"a child's child", "\x12\x73", api.Trie{top[0], valued("v", 0, 2, 7, 3, 15, 4), top[2], leaf("\x04", "c"), top[6]}},
		{"a child's other child", "\x12\x74", api.Trie{top[0], valued("v", 0, 2, 7, 3, 15, 4), top[2], leaf("\x03", "b"), top[6]}},
	} {
		checkDrop(t, x.name, top, x.key, x.want)
	}
	two := api.Trie{ext("\x01\x02", 1), valued("", 0, 2, 7, 3), leaf("\x00", "a"), leaf("\x00", "b")}
	checkDrop(t, "a value and a child are left", two, "\x12\x70", api.Trie{two[0], valued("", 0, 2), two[2]})
	checkDrop(t, "two children are left", two, "\x12", api.Trie{two[0], branch(0, 2, 7, 3), two[2], two[3]})
}

// P14.1: each one of a Branch's sixteen children.
func TestEachChild(t *testing.T) {
	of := func(halves []int) api.Trie {
		nodes := api.Trie{branch()}
		for i, half := range halves {
			nodes[0].Kids[half] = i + 1
			nodes = append(nodes, leaf("\x00", longest[half:]))
		}
		return nodes
	}
	all := []int{0, 1, 2, 3, 4, 5, 6, 7, 8, 9, 10, 11, 12, 13, 14, 15}
	for half := range 16 {
		checkDrop(t, "one of sixteen", of(all), string([]byte{byte(half) << 4}), of(slices.Delete(slices.Clone(all), half, half+1)))
		for other := range half {
			two := of([]int{other, half})
			checkDrop(t, "the second of two", two, string([]byte{byte(half) << 4}), api.Trie{leaf(string([]byte{byte(other), 0}), longest[other:])})
			checkDrop(t, "the first of two", two, string([]byte{byte(other) << 4}), api.Trie{leaf(string([]byte{byte(half), 0}), longest[half:])})
		}
	}
}

// P14.1: keys that are not there, but near those that are: the trie stays, and false.
func TestAbsent(t *testing.T) {
	for _, x := range []struct {
		name, key string
	}{
		{"within the first Branch", "\x50"},
		{"a Branch's, without a value", "\x11"},
		{"a Leaf's beginning", "\x11\x20\x30\x00"},
		{"longer than a Leaf's", "\x10\x00"},
		{"longer than a longer Leaf's", "\x40\x00\x00"},
		{"a Leaf's with another nibble", "\x41"},
		{"another child of an Ext's Branch", "\x11\x22"},
		{"past an Ext", "\x11\x30"},
		{"past an Ext, less", "\x11\x10"},
		{"a child of a Branch with a value", "\x11\x20\x40"},
		{"a Leaf's, the last nibble another one", "\x11\x20\x31"},
		{"of nibbles 0", "\x00\x00"},
		{"of nibbles 15", "\xff\xff\xff\xff\xff\xff\xff\xff"},
	} {
		checkAbsent(t, x.name, large(), x.key)
	}
	long := api.Trie{leaf("\x01\x02\x03\x04", "v")}
	for _, key := range []string{"\x12", "\x12\x34\x00", "\x12\x35", "\x13\x34", "\x02\x34", "\x01\x02\x03\x04", "\x12\x30"} {
		checkAbsent(t, "near a Leaf's", long, key)
	}
	deep := api.Trie{ext("\x01\x02\x03\x04", 1), branch(0, 2, 9, 3), leaf("\x00", ""), leaf("\x05", "")}
	for _, key := range []string{"\x12", "\x12\x34", "\x12\x44", "\x12\x34\x10", "\x12\x34\x01", "\x12\x34\x00\x00", "\x22\x34\x00"} {
		checkAbsent(t, "near an Ext's", deep, key)
	}
}

// P14.1: keys of 1 to MaxKey bytes are asked for; of others ErrKey.
func TestLengths(t *testing.T) {
	eight := "\x12\x34\x56\x78\x9a\xbc\xde\xf0"
	whole := api.Trie{leaf("\x01\x02\x03\x04\x05\x06\x07\x08\x09\x0a\x0b\x0c\x0d\x0e\x0f\x00", "v")}
	for _, nodes := range []api.Trie{nil, large(), whole, {leaf("\x01\x02", "")}} {
		for _, key := range []string{"", eight + "\x00", strings.Repeat("\x12", 16), strings.Repeat("\x12", 247), strings.Repeat("\x12", 256), strings.Repeat("\x12", 257), strings.Repeat("\x12", 264), strings.Repeat("\x12", 1<<16), strings.Repeat("\x12", 1<<16+1), strings.Repeat("\x12", 1<<20)} {
			checkRefused(t, "a key's length", nodes, key, api.ErrKey)
		}
	}
	for size := 1; size <= api.MaxKey; size++ {
		for _, key := range []string{eight[:size], strings.Repeat("\x00", size), strings.Repeat("\xff", size)} {
			checkDrop(t, "the only one", build(t, pairs(key, longest)), key, nil)
			checkAbsent(t, "another one", build(t, pairs("a", "v")), key)
		}
		if size < api.MaxKey {
			checkAbsent(t, "a beginning", whole, eight[:size])
		}
	}
}

// P14.1: nodes that are no trie: ErrArg, ahead of ErrKey (rule 3), also where what is wrong stands beside the key's way.
func TestNoTries(t *testing.T) {
	for name, nodes := range sample.Wrong() {
		for _, key := range []string{"\x10", "\x11\x20", "\x11\x20\x30", "\x11\x21", "\x40", "\x99", "", "123456789"} {
			checkRefused(t, name, nodes, key, api.ErrArg)
		}
	}
}
