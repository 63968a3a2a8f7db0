package trie_test

import (
	"reflect"
	"strings"
	"testing"

	"umbel/api"
	"umbel/sample"
	"umbel/trie"
)

// Nodes are written out in lists: their samples go by short names.
const longest = sample.Longest

var (
	pairs  = sample.Pairs
	leaf   = sample.Leaf
	ext    = sample.Ext
	branch = sample.Branch
	valued = sample.Valued
	large  = sample.Large
)

// repeated is so many of one nibble.
func repeated(nibble byte, count int) string {
	return strings.Repeat(string([]byte{nibble}), count)
}

func copied(t api.Trie) api.Trie {
	return append(api.Trie(nil), t...)
}

func samePairs(a, b []api.Pair) bool {
	return len(a) == 0 && len(b) == 0 || reflect.DeepEqual(a, b)
}

func samePaths(a, b []string) bool {
	return len(a) == 0 && len(b) == 0 || reflect.DeepEqual(a, b)
}

func sameNodes(a, b api.Trie) bool {
	return len(a) == 0 && len(b) == 0 || reflect.DeepEqual(a, b)
}

// checkTrie holds all five calls to pairs that may be, to their nodes, and to what leads to these.
func checkTrie(t *testing.T, name string, l []api.Pair, nodes api.Trie, paths []string) {
	t.Helper()
	got, ok := trie.Build(l)
	if !sameNodes(got, nodes) || !ok {
		t.Errorf("%s: Build(%q) = %#v, %v, want %#v, true", name, l, got, ok, nodes)
	}
	if !trie.Good(nodes) {
		t.Errorf("%s: Good(%#v) = false", name, nodes)
	}
	if got, ok := trie.Pairs(nodes); !samePairs(got, l) || !ok {
		t.Errorf("%s: Pairs(%#v) = %q, %v, want %q, true", name, nodes, got, ok, l)
	}
	if got, ok := trie.Paths(nodes); !samePaths(got, paths) || !ok {
		t.Errorf("%s: Paths(%#v) = %q, %v, want %q, true", name, nodes, got, ok, paths)
	}
	if !trie.Same(got, nodes) || !trie.Same(nodes, got) || !trie.Same(nodes, nodes) {
		t.Errorf("%s: Same tells %#v and %#v apart", name, got, nodes)
	}
}

// checkNoPairs holds Build to pairs that may not be.
func checkNoPairs(t *testing.T, name string, l []api.Pair) {
	t.Helper()
	if got, ok := trie.Build(l); len(got) != 0 || ok {
		t.Errorf("%s: Build(%.99q) = %#v, %v, want nothing and false", name, l, got, ok)
	}
}

// The tests' bounds are those that api's limits make.
func TestBounds(t *testing.T) {
	if len(longest) != api.MaxValue || api.MaxKey != 8 {
		t.Fatalf("values have up to %d bytes, keys up to %d", api.MaxValue, api.MaxKey)
	}
}

// P10.1, the chapter's example: one pair: a Leaf.
func TestExample(t *testing.T) {
	checkTrie(t, "one pair", pairs("key", "value"), api.Trie{leaf("\x06\x0b\x06\x05\x07\x09", "value")}, []string{""})
}

// P10.1: of no pairs no nodes; nil and empty lists are one (rule 2).
func TestNone(t *testing.T) {
	for _, l := range [][]api.Pair{nil, {}, make([]api.Pair, 0, 4)} {
		for _, nodes := range []api.Trie{nil, {}, make(api.Trie, 0, 4)} {
			checkTrie(t, "none", l, nodes, nil)
			if !trie.Same(nil, nodes) || !trie.Same(nodes, nil) || !trie.Same(nodes, api.Trie{}) {
				t.Error("Same tells two without nodes apart")
			}
		}
	}
}

// P10.1: one pair, its key of each length, its value of each.
func TestOnePair(t *testing.T) {
	for size := 1; size <= api.MaxKey; size++ {
		for _, b := range []byte{0x00, 0x0f, 0x10, 0x7f, 0x80, 0xff} {
			key := strings.Repeat(string([]byte{b}), size)
			path := strings.Repeat(string([]byte{b / 16, b % 16}), size)
			checkTrie(t, "a key's length", pairs(key, "v"), api.Trie{leaf(path, "v")}, []string{""})
		}
	}
	for size := range api.MaxValue + 1 {
		checkTrie(t, "a value's length", pairs("k", longest[:size]), api.Trie{leaf("\x06\x0b", longest[:size])}, []string{""})
		value := strings.Repeat("\x00", size)
		checkTrie(t, "a value of noughts", pairs("\x00", value), api.Trie{leaf("\x00\x00", value)}, []string{""})
	}
	for b := range 256 {
		key := string([]byte{byte(b)})
		checkTrie(t, "each byte", pairs(key, key), api.Trie{leaf(string([]byte{byte(b / 16), byte(b % 16)}), key)}, []string{""})
	}
}

// P10.1: where two keys part: in the first nibble, in a byte's second one, in the last one, and in between.
func TestTwoPairs(t *testing.T) {
	for _, x := range []struct {
		name  string
		l     []api.Pair
		nodes api.Trie
		paths []string
	}{
		{"the first nibble", pairs("\x12", "v", "\x32", ""),
			api.Trie{branch(1, 1, 3, 2), leaf("\x02", "v"), leaf("\x02", "")},
			[]string{"", "\x01", "\x03"}},
		{"the outermost nibbles", pairs("\x00", "v", "\xff", "w"),
			api.Trie{branch(0, 1, 15, 2), leaf("\x00", "v"), leaf("\x0f", "w")},
			[]string{"", "\x00", "\x0f"}},
		{"a byte's second nibble", pairs("\x12", "v", "\x13", "w"),
			api.Trie{ext("\x01", 1), branch(2, 2, 3, 3), leaf("", "v"), leaf("", "w")},
			[]string{"", "\x01", "\x01\x02", "\x01\x03"}},
		{"the second byte's second nibble, more behind it", pairs("\x12\x34\x56", "v", "\x12\x3f\x00", "w"),
			api.Trie{ext("\x01\x02\x03", 1), branch(4, 2, 15, 3), leaf("\x05\x06", "v"), leaf("\x00\x00", "w")},
			[]string{"", "\x01\x02\x03", "\x01\x02\x03\x04", "\x01\x02\x03\x0f"}},
		{"the second byte's first nibble", pairs("\x12\x34", "v", "\x12\x84", "w"),
			api.Trie{ext("\x01\x02", 1), branch(3, 2, 8, 3), leaf("\x04", "v"), leaf("\x04", "w")},
			[]string{"", "\x01\x02", "\x01\x02\x03", "\x01\x02\x08"}},
		{"the last nibble of all", pairs("\x00\x00\x00\x00\x00\x00\x00\x00", "v", "\x00\x00\x00\x00\x00\x00\x00\x01", "w"),
			api.Trie{ext(repeated(0, 15), 1), branch(0, 2, 1, 3), leaf("", "v"), leaf("", "w")},
			[]string{"", repeated(0, 15), repeated(0, 16), repeated(0, 15) + "\x01"}},
		{"the last nibble of all, the last one", pairs("\xff\xff\xff\xff\xff\xff\xff\xf0", longest, "\xff\xff\xff\xff\xff\xff\xff\xff", ""),
			api.Trie{ext(repeated(15, 15), 1), branch(0, 2, 15, 3), leaf("", longest), leaf("", "")},
			[]string{"", repeated(15, 15), repeated(15, 15) + "\x00", repeated(15, 16)}},
		{"the first nibble of the longest keys", pairs("\x00\x00\x00\x00\x00\x00\x00\x00", "v", "\x10\x00\x00\x00\x00\x00\x00\x00", "w"),
			api.Trie{branch(0, 1, 1, 2), leaf(repeated(0, 15), "v"), leaf(repeated(0, 15), "w")},
			[]string{"", "\x00", "\x01"}},
		{"bytes below and above 7f", pairs("\x7f", "v", "\x80", "w"),
			api.Trie{branch(7, 1, 8, 2), leaf("\x0f", "v"), leaf("\x00", "w")},
			[]string{"", "\x07", "\x08"}},
		{"keys of two lengths", pairs("\x12\x34", "v", "\x13", "w"),
			api.Trie{ext("\x01", 1), branch(2, 2, 3, 3), leaf("\x03\x04", "v"), leaf("", "w")},
			[]string{"", "\x01", "\x01\x02", "\x01\x03"}},
	} {
		checkTrie(t, x.name, x.l, x.nodes, x.paths)
	}
}

// P10.1: keys that others begin with.
func TestKeysThatOthersBeginWith(t *testing.T) {
	for _, x := range []struct {
		name  string
		l     []api.Pair
		nodes api.Trie
		paths []string
	}{
		{"one child and a value", pairs("\x12", "v", "\x12\x00", "w"),
			api.Trie{ext("\x01\x02", 1), valued("v", 0, 2), leaf("\x00", "w")},
			[]string{"", "\x01\x02", "\x01\x02\x00"}},
		{"one child and an empty value", pairs("\x00", "", "\x00\xf0", ""),
			api.Trie{ext("\x00\x00", 1), valued("", 15, 2), leaf("\x00", "")},
			[]string{"", "\x00\x00", "\x00\x00\x0f"}},
		{"two children and a value", pairs("\x12", longest, "\x12\x34", "w", "\x12\x50", "x"),
			api.Trie{ext("\x01\x02", 1), valued(longest, 3, 2, 5, 3), leaf("\x04", "w"), leaf("\x00", "x")},
			[]string{"", "\x01\x02", "\x01\x02\x03", "\x01\x02\x05"}},
		{"an Ext beneath a Branch with a value", pairs("\x12", "v", "\x12\x34", "w", "\x12\x35", "x"),
			api.Trie{ext("\x01\x02", 1), valued("v", 3, 2), branch(4, 3, 5, 4), leaf("", "w"), leaf("", "x")},
			[]string{"", "\x01\x02", "\x01\x02\x03", "\x01\x02\x03\x04", "\x01\x02\x03\x05"}},
		{"three, each the next one's beginning", pairs("\x12", "v", "\x12\x34", "w", "\x12\x34\x56", "x"),
			api.Trie{ext("\x01\x02", 1), valued("v", 3, 2), ext("\x04", 3), valued("w", 5, 4), leaf("\x06", "x")},
			[]string{"", "\x01\x02", "\x01\x02\x03", "\x01\x02\x03\x04", "\x01\x02\x03\x04\x05"}},
		{"the longest one begins with the next one", pairs("\x00\x00\x00\x00\x00\x00\x00", "v", "\x00\x00\x00\x00\x00\x00\x00\x00", "w"),
			api.Trie{ext(repeated(0, 14), 1), valued("v", 0, 2), leaf("\x00", "w")},
			[]string{"", repeated(0, 14), repeated(0, 15)}},
		{"the longest one begins with the shortest one", pairs("\xff", "v", "\xff\xff\xff\xff\xff\xff\xff\xff", "w"),
			api.Trie{ext("\x0f\x0f", 1), valued("v", 15, 2), leaf(repeated(15, 13), "w")},
			[]string{"", "\x0f\x0f", "\x0f\x0f\x0f"}},
		{"beside one that has half of it", pairs("\x12", "v", "\x12\x00", "w", "\x13", "x"),
			api.Trie{ext("\x01", 1), branch(2, 2, 3, 4), valued("v", 0, 3), leaf("\x00", "w"), leaf("", "x")},
			[]string{"", "\x01", "\x01\x02", "\x01\x02\x00", "\x01\x03"}},
	} {
		checkTrie(t, x.name, x.l, x.nodes, x.paths)
	}
}

// P10.1: a key of each length, each the next one's beginning: Branches with a value as deep as they may be.
func TestEachLengthBeginsTheNext(t *testing.T) {
	var l []api.Pair
	for size := 1; size <= api.MaxKey; size++ {
		l = append(l, api.Pair{Key: strings.Repeat("\x21", size), Value: longest[:size]})
	}
	nodes := api.Trie{ext("\x02\x01", 1)}
	paths := []string{""}
	for size := 1; size < api.MaxKey; size++ {
		at := len(nodes)
		here := strings.Repeat("\x02\x01", size)
		nodes = append(nodes, valued(longest[:size], 2, at+1), ext("\x01", at+2))
		paths = append(paths, here, here+"\x02")
	}
	nodes[len(nodes)-1] = leaf("\x01", longest[:api.MaxKey])
	checkTrie(t, "each length", l, nodes, paths)
}

// P10.1: an Ext of each length that may be, at the top and beneath a Branch.
func TestExtsOfEachLength(t *testing.T) {
	for count := 1; count < 2*api.MaxKey; count++ {
		same := repeated(10, count)
		size := count/2 + 1
		one, other := []byte(strings.Repeat("\xaa", size)), []byte(strings.Repeat("\xaa", size))
		left := ""
		if count%2 == 0 {
			one[size-1], other[size-1], left = 0x3a, 0x4a, "\x0a"
		} else {
			one[size-1], other[size-1] = 0xa3, 0xa4
		}
		l := pairs(string(one), "v", string(other), "w")
		checkTrie(t, "at the top", l, api.Trie{ext(same, 1), branch(3, 2, 4, 3), leaf(left, "v"), leaf(left, "w")}, []string{"", same, same + "\x03", same + "\x04"})
		if count == 1 {
			continue
		}
		l = append(l, pairs("\xf0", "x")...)
		checkTrie(t, "beneath a Branch", l,
			api.Trie{branch(10, 1, 15, 5), ext(same[1:], 2), branch(3, 3, 4, 4), leaf(left, "v"), leaf(left, "w"), leaf("\x00", "x")},
			[]string{"", "\x0a", same, same + "\x03", same + "\x04", "\x0f"})
	}
}

// P10.1: Branches of all sixteen children, with and without a value.
func TestAllSixteenChildren(t *testing.T) {
	var top, under []api.Pair
	nodes, paths := api.Trie{branch()}, []string{""}
	below, ways := api.Trie{ext("\x0a\x0b", 1), branch()}, []string{"", "\x0a\x0b"}
	for half := range 16 {
		value := longest[:half]
		top = append(top, api.Pair{Key: string([]byte{byte(17 * half)}), Value: value})
		nodes[0].Kids[half] = len(nodes)
		nodes = append(nodes, leaf(string([]byte{byte(half)}), value))
		paths = append(paths, string([]byte{byte(half)}))
		under = append(under, api.Pair{Key: string([]byte{0xab, byte(16*half + 15)}), Value: value})
		below[1].Kids[half] = len(below)
		below = append(below, leaf("\x0f", value))
		ways = append(ways, "\x0a\x0b"+string([]byte{byte(half)}))
	}
	checkTrie(t, "at the top", top, nodes, paths)
	checkTrie(t, "without a value", under, below, ways)
	below = copied(below)
	below[1].Has, below[1].Value = true, longest
	checkTrie(t, "with a value", append(pairs("\xab", longest), under...), below, ways)
}

// P10.1: nodes stand in preorder: what is beneath a child stands ahead of the next one.
func TestPreorder(t *testing.T) {
	checkTrie(t, "a short trie", pairs("\x10", "a", "\x11\x20", "b", "\x11\x21", "c", "\x40", "d"),
		api.Trie{branch(1, 1, 4, 7), branch(0, 2, 1, 3), leaf("", "a"), ext("\x02", 4), branch(0, 5, 1, 6), leaf("", "b"), leaf("", "c"), leaf("\x00", "d")},
		[]string{"", "\x01", "\x01\x00", "\x01\x01", "\x01\x01\x02", "\x01\x01\x02\x00", "\x01\x01\x02\x01", "\x04"})
	var l []api.Pair
	nodes, paths := api.Trie{branch()}, []string{""}
	for b := range 256 {
		value := string([]byte{byte(b)})
		l = append(l, api.Pair{Key: value, Value: value})
		high, low := string([]byte{byte(b / 16)}), string([]byte{byte(b % 16)})
		if b%16 == 0 {
			nodes[0].Kids[b/16] = len(nodes)
			nodes, paths = append(nodes, branch()), append(paths, high)
		}
		nodes[nodes[0].Kids[b/16]].Kids[b%16] = len(nodes)
		nodes, paths = append(nodes, leaf("", value)), append(paths, high+low)
	}
	checkTrie(t, "each byte", l, nodes, paths)
}

// P10.1: pairs that may not be.
func TestPairsThatMayNotBe(t *testing.T) {
	for _, x := range []struct {
		name string
		l    []api.Pair
	}{
		{"an empty key", pairs("", "v")},
		{"an empty key and an empty value", pairs("", "")},
		{"an empty key ahead of others", pairs("", "v", "a", "w", "b", "x")},
		{"an empty key behind another", pairs("a", "v", "", "w")},
		{"a key of nine bytes", pairs("123456789", "v")},
		{"a key of nine bytes ahead of others", pairs("123456789", "v", "2", "w")},
		{"a key of nine bytes behind others", pairs("0", "v", "1", "w", "123456789", "x")},
		{"a key of nine bytes that begins with one of eight", pairs("12345678", "v", "123456789", "w")},
		{"a key of 16 bytes", pairs("0123456789abcdef", "v")},
		{"a key of 256 bytes", pairs(strings.Repeat("k", 256), "v")},
		{"a key of 264 bytes", pairs(strings.Repeat("k", 264), "v")},
		{"a key of many bytes", pairs(strings.Repeat("k", 1<<20), "v")},
		{"falling keys", pairs("b", "v", "a", "w")},
		{"falling keys by their last nibble", pairs("a\x01", "v", "a\x00", "w")},
		{"falling keys, one the other's beginning", pairs("ab", "v", "a", "w")},
		{"falling keys by bytes as they are without a sign", pairs("\x80", "v", "\x7f", "w")},
		{"keys by their lengths", pairs("b", "v", "aa", "w")},
		{"falling last of all", pairs("a", "v", "b", "w", "c", "x", "ca", "y", "bz", "z")},
		{"falling in the middle", pairs("a", "v", "c", "w", "b", "x", "d", "y")},
		{"the same key twice", pairs("a", "v", "a", "w")},
		{"the same pair twice", pairs("a", "v", "a", "v")},
		{"the same key of eight bytes twice", pairs("12345678", "v", "12345678", "w")},
		{"the same key twice behind others", pairs("a", "v", "b", "w", "ba", "x", "ba", "y")},
		{"the same key three times", pairs("a", "v", "a", "v", "a", "v")},
		{"a value of 17 bytes", pairs("a", longest+"g")},
		{"a value of 17 bytes ahead of others", pairs("a", longest+"g", "b", "")},
		{"a value of 17 bytes behind others", pairs("a", "v", "b", "w", "bb", longest+"g")},
		{"a value of 17 bytes in the middle", pairs("a", "v", "ab", longest+"g", "abc", "x")},
		{"a value of 256 bytes", pairs("a", strings.Repeat("v", 256))},
		{"a value of 272 bytes", pairs("a", strings.Repeat("v", 272))},
		{"a value of many bytes", pairs("a", strings.Repeat("v", 1<<20))},
	} {
		checkNoPairs(t, x.name, x.l)
	}
}

// P10.1: of pairs that may be, one that may not be is told wherever it stands.
func TestOnePairThatMayNotBe(t *testing.T) {
	var l []api.Pair
	for b := range 40 {
		l = append(l, api.Pair{Key: string([]byte{byte(6 * b), 7}), Value: "v"})
	}
	if _, ok := trie.Build(l); !ok {
		t.Fatal("the pairs may be")
	}
	for at := range l {
		for _, p := range pairs("", "v", l[at].Key+"1234567", "v", l[at].Key, longest+"g", l[len(l)-1-at].Key, "v") {
			if p == l[at] {
				continue
			}
			changed := append([]api.Pair(nil), l...)
			changed[at] = p
			checkNoPairs(t, "another one", changed)
		}
		checkNoPairs(t, "doubled", append(append([]api.Pair(nil), l[:at+1]...), l[at:]...))
	}
}
