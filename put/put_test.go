package put_test

import (
	"slices"
	"strings"
	"testing"

	"umbel/api"
	"umbel/put"
	"umbel/sample"
	"umbel/trie"
)

// Nodes are written out in lists: their samples go by short names.
const longest = sample.Longest

var (
	pairs  = sample.Pairs
	leaf   = sample.Leaf
	ext    = sample.Ext
	branch = sample.Branch
	valued = sample.Valued
	large  = sample.Large
)

// checkPut holds both calls to what becomes of nodes when a pair is put.
func checkPut(t *testing.T, name string, nodes api.Trie, key, value string, want api.Trie) {
	t.Helper()
	if got, e := put.Of(nodes, key, value); !slices.Equal(got, want) || e != api.OK {
		t.Errorf("%s: Of(%#v, %x, %q) = %#v, %d, want %#v, OK", name, nodes, key, value, got, e, want)
	}
	checkAll(t, name, nodes, pairs(key, value), want)
}

// checkAll holds All to what becomes of nodes when pairs are put.
func checkAll(t *testing.T, name string, nodes api.Trie, l []api.Pair, want api.Trie) {
	t.Helper()
	if got, e := put.All(nodes, l); !slices.Equal(got, want) || e != api.OK {
		t.Errorf("%s: All(%#v, %q) = %#v, %d, want %#v, OK", name, nodes, l, got, e, want)
	}
}

// checkRefused holds both calls to an error, beside which there is nothing.
func checkRefused(t *testing.T, name string, nodes api.Trie, key, value string, want api.Errno) {
	t.Helper()
	if got, e := put.Of(nodes, key, value); len(got) != 0 || e != want {
		t.Errorf("%s: Of(%d nodes, %.20x, %.20q) = %#v, %d, want nothing and %d", name, len(nodes), key, value, got, e, want)
	}
	checkAllRefused(t, name, nodes, pairs(key, value), want)
}

func checkAllRefused(t *testing.T, name string, nodes api.Trie, l []api.Pair, want api.Errno) {
	t.Helper()
	if got, e := put.All(nodes, l); len(got) != 0 || e != want {
		t.Errorf("%s: All(%d nodes, %.40q) = %#v, %d, want nothing and %d", name, len(nodes), l, got, e, want)
	}
}

// The tests' bounds are those that api's limits make.
func TestBounds(t *testing.T) {
	if len(longest) != api.MaxValue || api.MaxKey != 8 {
		t.Fatalf("values have up to %d bytes, keys up to %d", api.MaxValue, api.MaxKey)
	}
}

// P13.1, the chapter's example: into no nodes: a Leaf; nil and empty lists are one (rule 2).
func TestExample(t *testing.T) {
	for _, nodes := range []api.Trie{nil, {}, make(api.Trie, 0, 4), large()[:0]} {
		checkPut(t, "no nodes", nodes, "\x12", "v", api.Trie{leaf("\x01\x02", "v")})
		checkPut(t, "no nodes", nodes, "\x00", "", api.Trie{leaf("\x00\x00", "")})
		checkPut(t, "no nodes", nodes, "\xfe\xdc\xba\x98\x76\x54\x32\x10", longest, api.Trie{leaf("\x0f\x0e\x0d\x0c\x0b\x0a\x09\x08\x07\x06\x05\x04\x03\x02\x01\x00", longest)})
		checkAll(t, "no nodes and no pairs", nodes, nil, nil)
		checkAll(t, "no nodes and no pairs", nodes, []api.Pair{}, nil)
	}
}

// P13.1: beside a Leaf: where the keys part in the first, in a middle, in the last nibble, and where one begins the other.
func TestBesideALeaf(t *testing.T) {
	one := api.Trie{leaf("\x01\x02\x03\x04", "v")}
	for _, x := range []struct {
		name, key string
		want      api.Trie
	}{
		{"the same key", "\x12\x34", api.Trie{leaf("\x01\x02\x03\x04", "w")}},
		{"the first nibble, less", "\x02\x34", api.Trie{branch(0, 1, 1, 2), leaf("\x02\x03\x04", "w"), leaf("\x02\x03\x04", "v")}},
		{"the first nibble, more", "\xf2", api.Trie{branch(1, 1, 15, 2), leaf("\x02\x03\x04", "v"), leaf("\x02", "w")}},
		{"the second nibble", "\x13\x34", api.Trie{ext("\x01", 1), branch(2, 2, 3, 3), leaf("\x03\x04", "v"), leaf("\x03\x04", "w")}},
		{"the third nibble", "\x12\x00\x00", api.Trie{ext("\x01\x02", 1), branch(0, 2, 3, 3), leaf("\x00\x00\x00", "w"), leaf("\x04", "v")}},
		{"the last nibble, less", "\x12\x33", api.Trie{ext("\x01\x02\x03", 1), branch(3, 2, 4, 3), leaf("", "w"), leaf("", "v")}},
		{"the last nibble, more", "\x12\x3f\x00", api.Trie{ext("\x01\x02\x03", 1), branch(4, 2, 15, 3), leaf("", "v"), leaf("\x00\x00", "w")}},
		{"it begins the other", "\x12", api.Trie{ext("\x01\x02", 1), valued("w", 3, 2), leaf("\x04", "v")}},
		{"the other begins it", "\x12\x34\x56", api.Trie{ext("\x01\x02\x03\x04", 1), valued("v", 5, 2), leaf("\x06", "w")}},
	} {
		checkPut(t, x.name, one, x.key, "w", x.want)
	}
}

// P13.1: beneath an Ext, and where the key leaves its Path at the first, a middle, the last nibble, or ends within it.
func TestAtAnExt(t *testing.T) {
	top := api.Trie{ext("\x01\x02\x03", 1), branch(0, 2, 9, 3), leaf("", "v"), leaf("\x05\x06", "w")}
	for _, x := range []struct {
		name, key string
		want      api.Trie
	}{
		{"beneath it", "\x12\x35", api.Trie{top[0], branch(0, 2, 5, 3, 9, 4), top[2], leaf("", "x"), top[3]}},
		{"in a Leaf's place", "\x12\x30", api.Trie{top[0], top[1], leaf("", "x"), top[3]}},
		{"beneath it, behind all", "\x12\x3a\x00", api.Trie{top[0], branch(0, 2, 9, 3, 10, 4), top[2], top[3], leaf("\x00\x00", "x")}},
		{"its first nibble, less", "\x02\x30", api.Trie{branch(0, 1, 1, 2), leaf("\x02\x03\x00", "x"), ext("\x02\x03", 3), branch(0, 4, 9, 5), top[2], top[3]}},
		{"its first nibble, more", "\xa0", api.Trie{branch(1, 1, 10, 5), ext("\x02\x03", 2), branch(0, 3, 9, 4), top[2], top[3], leaf("\x00", "x")}},
		{"a middle nibble", "\x1f", api.Trie{ext("\x01", 1), branch(2, 2, 15, 6), ext("\x03", 3), branch(0, 4, 9, 5), top[2], top[3], leaf("", "x")}},
		{"a middle nibble, less", "\x10\x3a", api.Trie{ext("\x01", 1), branch(0, 2, 2, 3), leaf("\x03\x0a", "x"), ext("\x03", 4), branch(0, 5, 9, 6), top[2], top[3]}},
		{"its last nibble", "\x12\x40", api.Trie{ext("\x01\x02", 1), branch(3, 2, 4, 5), branch(0, 3, 9, 4), top[2], top[3], leaf("\x00", "x")}},
		{"its last nibble, less", "\x12\x20", api.Trie{ext("\x01\x02", 1), branch(2, 2, 3, 3), leaf("\x00", "x"), branch(0, 4, 9, 5), top[2], top[3]}},
		{"the key ends within it", "\x12", api.Trie{ext("\x01\x02", 1), valued("x", 3, 2), branch(0, 3, 9, 4), top[2], top[3]}},
	} {
		checkPut(t, x.name, top, x.key, "x", x.want)
	}
	short := api.Trie{ext("\x01", 1), branch(2, 2, 3, 3), leaf("", "v"), leaf("", "w")}
	checkPut(t, "its one nibble", short, "\x72", "x", api.Trie{branch(1, 1, 7, 4), branch(2, 2, 3, 3), leaf("", "v"), leaf("", "w"), leaf("\x02", "x")})
	checkPut(t, "its one nibble, less", short, "\x02", "x", api.Trie{branch(0, 1, 1, 2), leaf("\x02", "x"), branch(2, 3, 3, 4), leaf("", "v"), leaf("", "w")})
}

// P13.1: in a Branch: a value, another one in its place, children ahead of, between and behind those that there are, whose numbers move.
func TestAtABranch(t *testing.T) {
	top := api.Trie{ext("\x0a\x05", 1), branch(3, 2, 7, 5), branch(1, 3, 2, 4), leaf("", "u"), leaf("", "v"), leaf("\x08", "w")}
	for _, x := range []struct {
		name, key string
		want      api.Trie
	}{
		{"a value", "\xa5", api.Trie{top[0], valued("x", 3, 2, 7, 5), top[2], top[3], top[4], top[5]}},
		{"a child ahead of all", "\xa5\x0f", api.Trie{top[0], branch(0, 2, 3, 3, 7, 6), leaf("\x0f", "x"), branch(1, 4, 2, 5), top[3], top[4], top[5]}},
		{"a child between", "\xa5\x4f", api.Trie{top[0], branch(3, 2, 4, 5, 7, 6), top[2], top[3], top[4], leaf("\x0f", "x"), top[5]}},
		{"a child behind all", "\xa5\xff", api.Trie{top[0], branch(3, 2, 7, 5, 15, 6), top[2], top[3], top[4], top[5], leaf("\x0f", "x")}},
		{"a child of a child", "\xa5\x30", api.Trie{top[0], branch(3, 2, 7, 6), branch(0, 3, 1, 4, 2, 5), leaf("", "x"), top[3], top[4], top[5]}},
		{"beneath a child's child", "\xa5\x31\x00", api.Trie{top[0], branch(3, 2, 7, 6), branch(1, 3, 2, 5), valued("u", 0, 4), leaf("\x00", "x"), top[4], top[5]}},
		{"a child parted", "\xa5\x79", api.Trie{top[0], branch(3, 2, 7, 5), top[2], top[3], top[4], branch(8, 6, 9, 7), leaf("", "w"), leaf("", "x")}},
		{"a child's value", "\xa5\x78", api.Trie{top[0], top[1], top[2], top[3], top[4], leaf("\x08", "x")}},
	} {
		checkPut(t, x.name, top, x.key, "x", x.want)
	}
	was := api.Trie{ext("\x01\x02", 1), valued("v", 0, 2), leaf("\x00", "w")}
	checkPut(t, "another value of a Branch", was, "\x12", "x", api.Trie{was[0], valued("x", 0, 2), was[2]})
	checkPut(t, "an empty value of a Branch", was, "\x12", "", api.Trie{was[0], valued("", 0, 2), was[2]})
	checkPut(t, "the same value of a Branch", was, "\x12", "v", was)
	checkPut(t, "the same value of a Leaf", was, "\x12\x00", "w", was)
	checkPut(t, "an empty value of a Leaf", was, "\x12\x00", "", api.Trie{was[0], was[1], leaf("\x00", "")})
}

// P13.1: of a trie with nodes of each Kind, each key's value changed, and no pairs at all: the nodes as they were.
func TestLarge(t *testing.T) {
	checkAll(t, "no pairs", large(), nil, large())
	l, _ := trie.Pairs(large())
	checkAll(t, "the same pairs", large(), l, large())
	for _, p := range l {
		for _, value := range []string{"", "other", longest} {
			want := large()
			for i := range want {
				if want[i].Has && want[i].Value == p.Value {
					want[i].Value = value
				}
			}
			checkPut(t, "another value", large(), p.Key, value, want)
		}
	}
}

// P13.1: keys of 1 to MaxKey bytes and values of up to MaxValue are put; of others ErrKey, then ErrValue (rule 3).
func TestLengths(t *testing.T) {
	eight := "\x12\x34\x56\x78\x9a\xbc\xde\xf0"
	values := []string{"", longest[:1], longest, longest + "!", strings.Repeat("v", 255), strings.Repeat("v", 256), strings.Repeat("v", 256+16), strings.Repeat("v", 1<<16), strings.Repeat("v", 1<<20)}
	tries := []api.Trie{nil, large(), {leaf("\x01\x02\x03\x04\x05\x06\x07\x08\x09\x0a\x0b\x0c\x0d\x0e\x0f\x00", "v")}}
	for _, nodes := range tries {
		for _, value := range values {
			for _, key := range []string{"", eight + "\x00", strings.Repeat("\x12", 247), strings.Repeat("\x12", 256), strings.Repeat("\x12", 257), strings.Repeat("\x12", 264), strings.Repeat("\x12", 1<<16), strings.Repeat("\x12", 1<<16+1), strings.Repeat("\x12", 1<<20)} {
				checkRefused(t, "a key's length", nodes, key, value, api.ErrKey)
			}
			for size := 1; size <= api.MaxKey && len(value) > api.MaxValue; size++ {
				checkRefused(t, "a value's length", nodes, eight[:size], value, api.ErrValue)
			}
		}
		for size := range api.MaxValue + 1 {
			key := eight[:1+size%api.MaxKey]
			checkBuilt(t, "a value's length", nodes, pairs(key, longest[:size]))
			checkBuilt(t, "bytes 0", nodes, pairs(strings.Repeat("\x00", len(key)), strings.Repeat("\x00", size)))
			checkBuilt(t, "bytes 255", nodes, pairs(strings.Repeat("\xff", len(key)), strings.Repeat("\xff", size)))
		}
	}
}

// P13.1, All: the first error of the pairs, at each place, whatever stands behind it; nothing of those ahead of it is told.
func TestTheFirstError(t *testing.T) {
	l := pairs("\x10", "1", "\x20", "2", "\x10", "3", "\x30", "4")
	wrong := []struct {
		p api.Pair
		e api.Errno
	}{
		{api.Pair{Key: "", Value: "v"}, api.ErrKey},
		{api.Pair{Key: "123456789", Value: "v"}, api.ErrKey},
		{api.Pair{Key: "123456789", Value: longest + "!"}, api.ErrKey},
		{api.Pair{Key: "12345678", Value: longest + "!"}, api.ErrValue},
	}
	for _, nodes := range []api.Trie{nil, large()} {
		for at := range len(l) + 1 {
			for _, x := range wrong {
				checkAllRefused(t, "one that may not be", nodes, slices.Insert(slices.Clone(l), at, x.p), x.e)
				for _, y := range wrong {
					checkAllRefused(t, "one behind the other", nodes, slices.Insert(slices.Clone(l), at, x.p, y.p), x.e)
					checkAllRefused(t, "one, and one at the end", nodes, append(slices.Insert(slices.Clone(l), at, x.p), y.p), x.e)
				}
			}
		}
		checkBuilt(t, "none that may not be", nodes, l)
	}
}

// P13.1: nodes that are no trie: ErrArg, ahead of all other errors (rule 3), also where what is wrong stands beside the key's way, or there are no pairs.
func TestNoTries(t *testing.T) {
	for name, nodes := range sample.Wrong() {
		for _, key := range []string{"\x10", "\x11\x20", "\x11\x20\x30", "\x11\x21", "\x40", "\x99", "", "123456789"} {
			for _, value := range []string{"", "v", longest + "!"} {
				checkRefused(t, name, nodes, key, value, api.ErrArg)
			}
		}
		checkAllRefused(t, name, nodes, nil, api.ErrArg)
		checkAllRefused(t, name, nodes, []api.Pair{}, api.ErrArg)
	}
}
