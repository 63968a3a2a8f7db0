package put_test

import (
	"slices"
	"testing"

	"umbel/api"
	"umbel/put"
	"umbel/sample"
	"umbel/trie"
)

// build has the trie of pairs that may be.
func build(t *testing.T, l []api.Pair) api.Trie {
	t.Helper()
	nodes, ok := trie.Build(l)
	if !ok {
		t.Fatalf("there is no trie of %q", l)
	}
	return nodes
}

// model has what becomes of a trie when pairs are put, told by its pairs alone.
func model(t *testing.T, nodes api.Trie, l []api.Pair) api.Trie {
	t.Helper()
	have, ok := trie.Pairs(nodes)
	if !ok {
		t.Fatalf("%#v is no trie", nodes)
	}
	for _, p := range l {
		have = sample.With(have, p)
	}
	return build(t, have)
}

// checkBuilt holds All, and Of one by one, to what the model says.
func checkBuilt(t *testing.T, name string, nodes api.Trie, l []api.Pair) {
	t.Helper()
	want := model(t, nodes, l)
	checkAll(t, name, nodes, l, want)
	one := nodes
	for _, p := range l {
		next, e := put.Of(one, p.Key, p.Value)
		if !trie.Good(next) || e != api.OK {
			t.Errorf("%s: Of(%#v, %x, %q) = %#v, %d", name, one, p.Key, p.Value, next, e)
			return
		}
		one = next
	}
	if len(l) > 0 && !slices.Equal(one, want) {
		t.Errorf("%s: %q put one by one into %#v is %#v, want %#v", name, l, nodes, one, want)
	}
}

// P13.1: into each set of a few keys each of these, and some near them.
func TestAllSubsets(t *testing.T) {
	keys := append(sample.Few(), "\x02", "\x11", "\x00\x11", "\x01\x23\x45\x67", "\x01\x23\x45\x67\x89\xab\xcd", "\xf0\x00")
	for set := range 1 << len(sample.Few()) {
		l := sample.Subset(set)
		nodes := build(t, l)
		for i, key := range keys {
			p := api.Pair{Key: key, Value: longest[i%3 : 3]}
			checkPut(t, "a subset", nodes, p.Key, p.Value, build(t, sample.With(l, p)))
		}
		if t.Failed() {
			return
		}
	}
}

// P13.1: mixed pairs, few and many, into mixed pairs, of which some have the same keys.
func TestMixedPairs(t *testing.T) {
	v := sample.Numbers(1)
	for round := range 400 {
		choice := 2 + round%8
		nodes := build(t, v.Some(1+round%30, choice))
		var l []api.Pair
		for range v.Below(12) {
			l = append(l, api.Pair{Key: v.Text(1, 1+v.Below(api.MaxKey), choice), Value: v.Text(0, api.MaxValue, 9)})
		}
		checkBuilt(t, "mixed pairs", nodes, l)
	}
	for range 2 {
		nodes := build(t, v.Some(200, 9))
		checkBuilt(t, "many pairs", nodes, v.Some(200, 9))
		checkAll(t, "many of one trie into another", nodes, v.Some(0, 9), nodes)
	}
}

// orders tells each order of a few pairs.
func orders(l []api.Pair, yield func([]api.Pair)) {
	var next func(done, rest []api.Pair)
	next = func(done, rest []api.Pair) {
		if len(rest) == 0 {
			yield(done)
			return
		}
		for i := range rest {
			next(append(slices.Clone(done), rest[i]), slices.Delete(slices.Clone(rest), i, i+1))
		}
	}
	next(nil, l)
}

// P13.2: each order of a few pairs, into no nodes and into some.
func TestEachOrder(t *testing.T) {
	lists := [][]api.Pair{
		pairs("\x12", "a", "\x12\x34", "b", "\x12\x35", "c", "\x12\x35\x67", "d", "\x02", "e"),
		pairs("\x11\x20", "x", "\x11\x22", "y", "\x11", "z", "\x11\x20\x31", "u", "\x40\x00", "w"),
		pairs("\x00", "", "\x00\x00", "", "\x00\x00\x00", "", "\x00\x00\x00\x00", "", "\x00\x01", ""),
		pairs("\x12\x34\x56\x78\x9a\xbc\xde\xf0", "a", "\x12\x34\x56\x78\x9a\xbc\xde\xf1", "b", "\x12\x34\x56\x78\x9a\xbc\xde\x00", "c", "\x12\x34", "d", "\x1f", "e"),
	}
	for _, nodes := range []api.Trie{nil, large()} {
		for _, l := range lists {
			want := model(t, nodes, l)
			orders(l, func(l []api.Pair) {
				checkBuilt(t, "an order", nodes, l)
				checkAll(t, "an order", nodes, l, want)
			})
		}
	}
}

// P13.2: many pairs, rising, falling and mixed.
func TestManyOrders(t *testing.T) {
	v := sample.Numbers(2)
	for round := range 40 {
		nodes := build(t, v.Some(20, 2+round%8))
		l := v.Some(100, 2+round%8)
		want := model(t, nodes, l)
		checkAll(t, "rising", nodes, l, want)
		slices.Reverse(l)
		checkAll(t, "falling", nodes, l, want)
		for range 5 {
			for i := range l {
				j := i + v.Below(len(l)-i)
				l[i], l[j] = l[j], l[i]
			}
			checkAll(t, "mixed", nodes, l, want)
		}
	}
}

// P13.1: of pairs with one key the last one's value is there, and P13.2 speaks of no such pairs.
func TestTheLastOfAKey(t *testing.T) {
	l := pairs("\x12", "a", "\x13", "b", "\x12", "c", "\x12\x00", "d", "\x12", "e", "\x12\x00", "")
	checkAll(t, "keys again", nil, l, build(t, pairs("\x12", "e", "\x12\x00", "", "\x13", "b")))
	slices.Reverse(l)
	checkAll(t, "keys again, the other way round", nil, l, build(t, pairs("\x12", "a", "\x12\x00", "d", "\x13", "b")))
	for _, key := range []string{"\x10", "\x11\x20", "\x50"} {
		var again []api.Pair
		for i := range 50 {
			again = append(again, api.Pair{Key: key, Value: longest[i%17:]})
		}
		checkBuilt(t, "one key again and again", large(), again)
	}
}

// P13.1: nodes that were put together by chance: ErrArg just if they are no trie.
func TestNodesByChance(t *testing.T) {
	v := sample.Numbers(5)
	good := 0
	for range 40000 {
		nodes := v.Nodes(5)
		p := api.Pair{Key: v.Text(1, 2, 4), Value: v.Text(0, 2, 9)}
		if !trie.Good(nodes) {
			checkRefused(t, "by chance", nodes, p.Key, p.Value, api.ErrArg)
			continue
		}
		if len(nodes) > 2 {
			good++
		}
		checkBuilt(t, "by chance", nodes, []api.Pair{p})
		checkRefused(t, "by chance", nodes, "", p.Value, api.ErrKey)
	}
	if good < 10 {
		t.Errorf("but %d tries of three nodes and more were among them", good)
	}
}
