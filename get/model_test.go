package get_test

import (
	"slices"
	"strconv"
	"strings"
	"testing"

	"umbel/api"
	"umbel/get"
	"umbel/nibble"
	"umbel/sample"
	"umbel/trie"
)

// model tells what both calls should of pairs: the way is of all nodes to which a beginning of the key leads, without asking for any child; the answer is that of the pairs, without asking for any node.
func model(l []api.Pair, paths []string, key string) ([]int, api.Answer) {
	var way []int
	for i, p := range paths {
		if strings.HasPrefix(nibble.Of(key), p) {
			way = append(way, i)
		}
	}
	var a api.Answer
	for _, p := range l {
		if p.Key == key {
			a = has(p.Value)
		}
	}
	return way, a
}

// checkPairs holds both calls to what the model says of some keys, and of those that there are.
func checkPairs(t *testing.T, name string, l []api.Pair, keys []string) {
	t.Helper()
	nodes := build(t, l)
	paths, _ := trie.Paths(nodes)
	keys = slices.Clone(keys)
	for _, p := range l {
		keys = append(keys, p.Key)
	}
	for _, key := range keys {
		way, a := model(l, paths, key)
		checkWay(t, name, nodes, key, way, a)
	}
}

// around has keys that part from a key in one bit, and those that it begins, or that begin it.
func around(key string) []string {
	out := []string{key}
	for i := range key {
		if i > 0 {
			out = append(out, key[:i])
		}
		for bit := range 8 {
			b := []byte(key)
			b[i] ^= 1 << bit
			out = append(out, string(b))
		}
	}
	if len(key) < api.MaxKey {
		out = append(out, key+"\x00", key+"\x01", key+"\x10", key+"\xff")
	}
	return out
}

// P12.1: all sets of a few keys: of each the keys that there are, those that are not, and those near them.
func TestAllSubsets(t *testing.T) {
	keys := append(sample.Few(), "\x02", "\x11", "\x00\x11", "\x00\x02", "\x00\x10\x01", "\x01\x23\x45\x67", "\x01\x23\x45\x67\x89\xab\xcd\xed", "\xf0\x00")
	for set := range 1 << len(sample.Few()) {
		checkPairs(t, "a subset", sample.Subset(set), keys)
		if t.Failed() {
			return
		}
	}
}

// P12.1: mixed pairs, few and many, asked for keys that begin like theirs.
func TestMixedPairs(t *testing.T) {
	v := sample.Numbers(1)
	for round := range 300 {
		l := v.Some(1+round%40, 2+round%8)
		var keys []string
		for range 20 {
			keys = append(keys, v.Text(1, api.MaxKey, 2+round%8))
		}
		for _, p := range l {
			keys = append(keys, around(p.Key)[v.Below(4)])
		}
		checkPairs(t, "mixed pairs", l, keys)
	}
	for range 2 {
		checkPairs(t, "many pairs", v.Some(300, 9), nil)
	}
}

// P12.1: all keys around those of a few tries.
func TestKeysAround(t *testing.T) {
	v := sample.Numbers(2)
	for round := range 30 {
		l := v.Some(12, 2+round%8)
		for _, p := range l {
			checkPairs(t, "keys around", l, around(p.Key))
		}
	}
}

// told has what nodes say of a key one behind the other, whatever their numbers are: the answer, and whether they are a way to its end.
func told(l []api.Node, key string) (api.Answer, bool) {
	rest := nibble.Of(key)
	for i, n := range l {
		last := i == len(l)-1
		switch {
		case n.Kind == api.Leaf:
			if n.Path == rest {
				return has(n.Value), last
			}
			return api.Answer{}, last
		case n.Kind == api.Ext && !strings.HasPrefix(rest, n.Path):
			return api.Answer{}, last
		case n.Kind == api.Ext:
			rest = rest[len(n.Path):]
		case rest == "":
			return api.Answer{Has: n.Has, Value: n.Value}, last
		case n.Kids[rest[0]] == 0:
			return api.Answer{}, last
		default:
			rest = rest[1:]
		}
	}
	return api.Answer{}, len(l) == 0
}

// shape is what nodes have, but for the numbers of their children: which ones there are.
func shape(l []api.Node) string {
	var b strings.Builder
	for _, n := range l {
		b.WriteString(strconv.Itoa(n.Kind) + strconv.Quote(n.Path) + strconv.FormatBool(n.Has) + strconv.Quote(n.Value))
		for _, kid := range n.Kids {
			b.WriteString(strconv.FormatBool(kid > 0))
		}
	}
	return b.String()
}

// P12.2: the nodes on the way, and no others, tell the answer: read one behind the other they say it, and tries that have the same ones on a key's way have the same answer, whatever else is in them.
func TestTheWayTellsTheAnswer(t *testing.T) {
	v := sample.Numbers(3)
	seen := map[string]api.Answer{}
	again := 0
	for round := range 400 {
		l := v.Some(1+round%20, 2+round%3)
		nodes := build(t, l)
		for range 30 {
			key := v.Text(1, 3, 2+round%3)
			way, _ := get.Walk(nodes, key)
			var on []api.Node
			for _, i := range way {
				on = append(on, nodes[i])
			}
			a, e := get.Of(nodes, key)
			if want, ok := told(on, key); a != want || e != api.OK || !ok {
				t.Fatalf("Of(%q, %x) = %#v, %d; the way %d says %#v, %v", l, key, a, e, way, want, ok)
			}
			name := shape(on) + key
			if was, ok := seen[name]; ok {
				again++
				if was != a {
					t.Fatalf("Of(%q, %x) = %#v, and was %#v with the same way", l, key, a, was)
				}
			}
			seen[name] = a
		}
	}
	if again < 1000 {
		t.Errorf("but %d ways came again", again)
	}
}

// P12.1: nodes that were put together by chance: ErrArg just if they are no trie; of tries, what their pairs say.
func TestNodesByChance(t *testing.T) {
	v := sample.Numbers(5)
	good := 0
	for range 40000 {
		nodes := v.Nodes(5)
		key := v.Text(1, 2, 4)
		l, ok := trie.Pairs(nodes)
		if !ok {
			checkRefused(t, "by chance", nodes, key, api.ErrArg)
			checkRefused(t, "by chance", nodes, "", api.ErrArg)
			continue
		}
		if len(nodes) > 2 {
			good++
		}
		checkPairs(t, "by chance", l, []string{key})
		checkRefused(t, "by chance", nodes, "", api.ErrKey)
	}
	if good < 10 {
		t.Errorf("but %d tries of three nodes and more were among them", good)
	}
}
