package drop_test

import (
	"slices"
	"testing"

	"umbel/api"
	"umbel/drop"
	"umbel/put"
	"umbel/sample"
	"umbel/trie"
)

// build has the trie of pairs that may be.
func build(t *testing.T, l []api.Pair) api.Trie {
	t.Helper()
	nodes, ok := trie.Build(l)
	if !ok {
		t.Fatalf("there is no trie of %q", l)
	}
	return nodes
}

// checkPairs holds the call to the trie of rising pairs without that with the key, which is there or not.
func checkPairs(t *testing.T, name string, l []api.Pair, key string) {
	t.Helper()
	nodes, rest := build(t, l), sample.Without(l, key)
	if len(rest) == len(l) {
		checkAbsent(t, name, nodes, key)
		return
	}
	checkDrop(t, name, nodes, key, build(t, rest))
}

// P14.1: from each set of a few keys each of these, and some near them.
func TestAllSubsets(t *testing.T) {
	keys := append(sample.Few(), "\x02", "\x11", "\x00\x11", "\x01\x23\x45\x67", "\x01\x23\x45\x67\x89\xab\xcd", "\xf0\x00")
	for set := range 1 << len(sample.Few()) {
		l := sample.Subset(set)
		for _, key := range keys {
			checkPairs(t, "a subset", l, key)
		}
		if t.Failed() {
			return
		}
	}
}

// P14.1: mixed pairs, few and many: each one of them, and keys by chance.
func TestMixedPairs(t *testing.T) {
	v := sample.Numbers(1)
	for round := range 400 {
		choice := 2 + round%8
		l := v.Some(1+round%30, choice)
		for _, p := range l {
			checkPairs(t, "mixed pairs", l, p.Key)
		}
		for range 10 {
			checkPairs(t, "mixed pairs, a key by chance", l, v.Text(1, 1+v.Below(api.MaxKey), choice))
		}
	}
	l := v.Some(200, 9)
	for _, p := range l {
		checkPairs(t, "many pairs", l, p.Key)
	}
}

// P14.1: one behind the other till none is left, in each order of a few pairs.
func TestOneByOne(t *testing.T) {
	for _, l := range [][]api.Pair{
		pairs("\x02", "e", "\x12", "a", "\x12\x34", "b", "\x12\x35", "c", "\x12\x35\x67", "d"),
		pairs("\x00", "", "\x00\x00", "", "\x00\x00\x00", "", "\x00\x00\x00\x00", "", "\x00\x01", ""),
		pairs("\x12\x34", "d", "\x12\x34\x56\x78\x9a\xbc\xde\x00", "c", "\x12\x34\x56\x78\x9a\xbc\xde\xf0", "a", "\x12\x34\x56\x78\x9a\xbc\xde\xf1", "b", "\x1f", "e"),
	} {
		var all func(left []api.Pair, nodes api.Trie)
		all = func(left []api.Pair, nodes api.Trie) {
			for i, p := range left {
				rest := slices.Delete(slices.Clone(left), i, i+1)
				checkDrop(t, "one by one", nodes, p.Key, build(t, rest))
				next, _, _ := drop.Of(nodes, p.Key)
				all(rest, next)
			}
		}
		all(l, build(t, l))
	}
}

// P14.1: many, mixed, one behind the other till none is left.
func TestManyOneByOne(t *testing.T) {
	v := sample.Numbers(2)
	for round := range 30 {
		l := v.Some(60, 2+round%8)
		nodes := build(t, l)
		for len(l) > 0 {
			key := l[v.Below(len(l))].Key
			l = sample.Without(l, key)
			checkDrop(t, "many, one by one", nodes, key, build(t, l))
			nodes = build(t, l)
		}
	}
}

// P14.2: what was put into a trie without that key, and dropped, leaves the trie.
func TestPutAndDropped(t *testing.T) {
	v := sample.Numbers(3)
	keys := append(sample.Few(), "\x11", "\x11\x20\x31", "\x12", "\x40\x00", "\x00\x10\x00\x00", "\x01\x23\x45\x67\x89\xab\xce", "\x11\x20\x30\x00", "\xf1")
	tries := []api.Trie{nil, large(), build(t, pairs("\x12", "")), build(t, sample.Worded())}
	for range 200 {
		tries = append(tries, build(t, v.Some(20, 4)))
	}
	for _, nodes := range tries {
		for i, key := range keys {
			if l, _ := trie.Pairs(nodes); len(sample.Without(l, key)) < len(l) {
				continue
			}
			more, e := put.Of(nodes, key, longest[:i%17])
			if e != api.OK || trie.Same(more, nodes) {
				t.Fatalf("%x is not put into %#v", key, nodes)
			}
			checkDrop(t, "what was put", more, key, nodes)
		}
	}
}

// P14.1: nodes that were put together by chance: ErrArg just if they are no trie.
func TestNodesByChance(t *testing.T) {
	v := sample.Numbers(5)
	good := 0
	for range 40000 {
		nodes := v.Nodes(5)
		key := v.Text(1, 2, 4)
		l, ok := trie.Pairs(nodes)
		if !ok {
			checkRefused(t, "by chance", nodes, key, api.ErrArg)
			continue
		}
		if len(nodes) > 2 {
			good++
		}
		checkPairs(t, "by chance", l, key)
		checkPairs(t, "by chance, the last", l, l[len(l)-1].Key)
		checkRefused(t, "by chance", nodes, "", api.ErrKey)
	}
	if good < 10 {
		t.Errorf("but %d tries of three nodes and more were among them", good)
	}
}
