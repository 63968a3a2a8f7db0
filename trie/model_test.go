package trie_test

import (
	"slices"
	"strings"
	"testing"

	"umbel/api"
	"umbel/sample"
	"umbel/trie"
)

// halves has the nibbles of a key.
func halves(key string) string {
	var b []byte
	for _, c := range []byte(key) {
		b = append(b, c/16, c%16)
	}
	return string(b)
}

// modelled is the trie of values by their keys' nibbles, as the chapter says it: what stands at each beginning hangs on which keys go on from there, and nothing is asked in order.
type modelled struct {
	values map[string]string
	nodes  api.Trie
	paths  []string
}

// model tells the trie, and what leads to its nodes, of pairs in any order.
func model(l []api.Pair) (api.Trie, []string) {
	m := modelled{values: map[string]string{}}
	for _, p := range l {
		m.values[halves(p.Key)] = p.Value
	}
	if len(l) > 0 {
		m.lay("")
	}
	return m.nodes, m.paths
}

// goOn has the keys that begin so.
func (m *modelled) goOn(begin string) []string {
	var out []string
	for n := range m.values {
		if strings.HasPrefix(n, begin) {
			out = append(out, n)
		}
	}
	return out
}

// ways tells which nibbles the keys that begin so go on with, and whether one ends there.
func (m *modelled) ways(begin string) (next []int, ends bool) {
	for half := range 16 {
		if len(m.goOn(begin+string([]byte{byte(half)}))) > 0 {
			next = append(next, half)
		}
	}
	_, ends = m.values[begin]
	return next, ends
}

// lay lays what stands at a beginning behind the nodes.
func (m *modelled) lay(begin string) {
	at := len(m.nodes)
	m.paths = append(m.paths, begin)
	if keys := m.goOn(begin); len(keys) == 1 {
		m.nodes = append(m.nodes, leaf(keys[0][len(begin):], m.values[keys[0]]))
		return
	}
	end := begin
	next, ends := m.ways(end)
	for !ends && len(next) == 1 {
		end += string([]byte{byte(next[0])})
		next, ends = m.ways(end)
	}
	if end != begin {
		m.nodes = append(m.nodes, ext(end[len(begin):], at+1))
		m.lay(end)
		return
	}
	m.nodes = append(m.nodes, api.Node{Kind: api.Branch, Has: ends, Value: m.values[end]})
	for _, half := range next {
		m.nodes[at].Kids[half] = len(m.nodes)
		m.lay(end + string([]byte{byte(half)}))
	}
}

// reader goes down nodes that may be a trie, and asks of each what the chapter says of its Kind.
type reader struct {
	nodes api.Trie
	l     []api.Pair
	paths []string
}

// told has what Pairs and Paths should tell of any nodes.
func told(nodes api.Trie) ([]api.Pair, []string, bool) {
	r := reader{nodes: nodes}
	if len(nodes) > 0 && !r.down(0, "", false) || len(r.paths) != len(nodes) {
		return nil, nil, false
	}
	return r.l, r.paths, true
}

// down reads the node at a place, to which a path leads; it must be the next one that was not read.
func (r *reader) down(at int, path string, branchOnly bool) bool {
	if at != len(r.paths) || at >= len(r.nodes) || len(path) > 16 {
		return false
	}
	r.paths = append(r.paths, path)
	n := r.nodes[at]
	if len(n.Path) > 16 || strings.Trim(n.Path, "\x00\x01\x02\x03\x04\x05\x06\x07\x08\x09\x0a\x0b\x0c\x0d\x0e\x0f") != "" {
		return false
	}
	switch n.Kind {
	case api.Leaf:
		return !branchOnly && n.Kids == [16]int{} && n.Has && r.pair(path+n.Path, n.Value)
	case api.Ext:
		if branchOnly || n.Path == "" || n.Has || n.Value != "" || n.Kids != [16]int{n.Kids[0]} {
			return false
		}
		return r.down(n.Kids[0], path+n.Path, true)
	case api.Branch:
		return r.branch(n, path)
	}
	return false
}

func (r *reader) branch(n api.Node, path string) bool {
	leads := 0
	if n.Has {
		leads++
		if !r.pair(path, n.Value) {
			return false
		}
	}
	for half, kid := range n.Kids {
		if kid == 0 {
			continue
		}
		leads++
		if !r.down(kid, path+string([]byte{byte(half)}), false) {
			return false
		}
	}
	return leads >= 2 && n.Path == "" && (n.Has || n.Value == "")
}

func (r *reader) pair(n, value string) bool {
	if len(n) < 2 || len(n) > 16 || len(n)%2 == 1 || len(value) > 16 {
		return false
	}
	var b []byte
	for i := 0; i < len(n); i += 2 {
		b = append(b, n[i]*16+n[i+1])
	}
	r.l = append(r.l, api.Pair{Key: string(b), Value: value})
	return true
}

// checkNodes holds all calls to what the reader says of any nodes, and Build to what they tell.
func checkNodes(t *testing.T, name string, nodes api.Trie) {
	t.Helper()
	l, paths, ok := told(nodes)
	if !ok {
		checkNoTrie(t, name, nodes)
		return
	}
	checkTrie(t, name, l, nodes, paths)
}

// checkPairs holds all calls to what the model says of pairs that may be.
func checkPairs(t *testing.T, name string, l []api.Pair) {
	t.Helper()
	nodes, paths := model(l)
	checkTrie(t, name, l, nodes, paths)
	if got, _, ok := told(nodes); !samePairs(got, l) || !ok {
		t.Errorf("%s: the model and the reader part: %q, %v and %q", name, got, ok, l)
	}
}

// P10.1 and P10.2: all sets of a few keys: each has its trie, and no two have one.
func TestAllSubsets(t *testing.T) {
	var all []api.Trie
	for set := range 1 << len(sample.Few()) {
		checkPairs(t, "a subset", sample.Subset(set))
		nodes, _ := trie.Build(sample.Subset(set))
		all = append(all, nodes)
	}
	for a := range all {
		for b := range a + 1 {
			if trie.Same(all[a], all[b]) != (a == b) {
				t.Errorf("Same of the tries of %q and %q is %v", sample.Subset(a), sample.Subset(b), a != b)
			}
		}
	}
}

// P10.1 and P10.2: mixed pairs, few and many, of keys that begin alike and of others, there and back.
func TestMixedPairs(t *testing.T) {
	v := sample.Numbers(1)
	for round := range 600 {
		checkPairs(t, "mixed pairs", v.Some(1+round%40, 2+round%8))
	}
	for range 4 {
		checkPairs(t, "many pairs", v.Some(300, 9))
	}
}

// P10.2: Build of Pairs is the trie, and Pairs of Build are the pairs.
func TestThereAndBack(t *testing.T) {
	v := sample.Numbers(2)
	for round := range 300 {
		l := v.Some(30, 2+round%8)
		nodes, ok := trie.Build(l)
		back, is := trie.Pairs(nodes)
		again, as := trie.Build(back)
		if !ok || !is || !as || !slices.Equal(back, l) || !slices.Equal(again, nodes) {
			t.Errorf("%q: %#v, then %q, then %#v", l, nodes, back, again)
		}
	}
}

// P10.2: a trie hangs on its pairs alone: other pairs, be it by one byte, have another one, and what was called ahead changes nothing.
func TestOtherPairsHaveAnotherTrie(t *testing.T) {
	v := sample.Numbers(3)
	for range 200 {
		l := v.Some(12, 4)
		nodes, _ := trie.Build(l)
		for _, p := range l {
			without := sample.Without(l, p.Key)
			if rest, ok := trie.Build(without); !ok || trie.Same(rest, nodes) {
				t.Errorf("Build(%q) without %q: %#v, %v", l, p, rest, ok)
			}
			for _, x := range sample.Near(p) {
				if other, ok := trie.Build(sample.With(without, x)); ok && trie.Same(other, nodes) {
					t.Errorf("Build(%q) with %q in place of %q is the same", l, x, p)
				}
			}
		}
		if again, ok := trie.Build(l); !ok || !trie.Same(again, nodes) {
			t.Errorf("Build(%q) is %#v, and then %#v", l, nodes, again)
		}
	}
}

// P10.1: tries of which one field of one node is another one: they are tries of others, or none.
func TestOneFieldChanged(t *testing.T) {
	v := sample.Numbers(4)
	tries := []api.Trie{small(), large()}
	for round := range 30 {
		nodes, _ := model(v.Some(12, 2+round%8))
		tries = append(tries, nodes)
	}
	for _, nodes := range tries {
		for at, n := range nodes {
			for _, x := range others(n) {
				checkNodes(t, x.field, changed(nodes, at, func(n *api.Node) { *n = x.node }))
			}
			for _, path := range []string{"", "\x00", "\x0f", "\x10", "\x00\x00", n.Path + "\x01", n.Path + "\x01\x02", strings.TrimPrefix(n.Path, "\x00"), repeated(1, 16)} {
				checkNodes(t, "Path", changed(nodes, at, func(n *api.Node) { n.Path = path }))
			}
			for half := range n.Kids {
				for _, kid := range []int{0, 1, at, at + 1, at + 2, len(nodes) - 1, len(nodes)} {
					checkNodes(t, "Kids", changed(nodes, at, func(n *api.Node) { n.Kids[half] = kid }))
				}
				for other := range half {
					checkNodes(t, "two Kids", changed(nodes, at, func(n *api.Node) { n.Kids[half], n.Kids[other] = n.Kids[other], n.Kids[half] }))
				}
			}
		}
		if t.Failed() {
			return
		}
	}
}

// P10.1: lists of nodes that were put together by chance, most of them no tries, some of them tries.
func TestNodesByChance(t *testing.T) {
	v := sample.Numbers(5)
	good := 0
	for range 100000 {
		nodes := v.Nodes(6)
		checkNodes(t, "by chance", nodes)
		if _, _, ok := told(nodes); ok && len(nodes) > 2 {
			good++
		}
		if t.Failed() {
			return
		}
	}
	if good < 30 {
		t.Errorf("but %d tries of three nodes and more were among them", good)
	}
}
