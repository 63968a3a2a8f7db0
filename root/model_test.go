package root_test

import (
	"slices"
	"strings"
	"testing"

	"umbel/api"
	"umbel/root"
	"umbel/sample"
	"umbel/trie"
)

// modelled has the Items and hashes that pairs have, told from the keys' nibbles without any nodes or children's numbers; nothing is asked in order.
type modelled struct {
	values map[string]string
	items  []api.Item
	hashes []string
}

// model tells the Items and hashes of pairs in any order.
func model(l []api.Pair) ([]api.Item, []string) {
	m := modelled{values: map[string]string{}}
	for _, p := range l {
		var n []byte
		for _, c := range []byte(p.Key) {
			n = append(n, c/16, c%16)
		}
		m.values[string(n)] = p.Value
	}
	if len(l) > 0 {
		m.lay("")
	}
	return m.items, m.hashes
}

// beginning has the keys that begin so.
func (m *modelled) beginning(begin string) []string {
	var out []string
	for n := range m.values {
		if strings.HasPrefix(n, begin) {
			out = append(out, n)
		}
	}
	return out
}

// lay tells the hash of what stands at a beginning, its Item and all beneath it being laid behind those that are there.
func (m *modelled) lay(begin string) string {
	keys := m.beginning(begin)
	at := len(m.items)
	m.items, m.hashes = append(m.items, api.Item{}), append(m.hashes, "")
	i, text := m.item(begin, keys)
	m.items[at], m.hashes[at] = i, hashed(text+strings.Join(i.Hashes, ""))
	return m.hashes[at]
}

// item tells the Item of the keys that begin so, and its text up to the hashes.
func (m *modelled) item(begin string, keys []string) (api.Item, string) {
	if len(keys) == 1 {
		path, value := keys[0][len(begin):], m.values[keys[0]]
		return api.Item{Kind: api.Leaf, Path: path, Has: true, Value: value}, "\x01" + packed(path) + sized(value)
	}
	end := begin
	for !slices.Contains(keys, end) && len(m.next(end)) == 1 {
		end += m.next(end)[0]
	}
	if end != begin {
		path := end[len(begin):]
		return api.Item{Kind: api.Ext, Path: path, Mask: 1, Hashes: []string{m.lay(end)}}, "\x02" + packed(path)
	}
	i := api.Item{Kind: api.Branch}
	i.Value, i.Has = m.values[end]
	for _, half := range m.next(end) {
		i.Mask += 1 << half[0]
		i.Hashes = append(i.Hashes, m.lay(end+half))
	}
	text := "\x03" + string([]byte{byte(i.Mask / 256), byte(i.Mask % 256)})
	if i.Has {
		return i, text + "\x01" + sized(i.Value)
	}
	return i, text + "\x00"
}

// next has the nibbles, rising, that keys go on with behind a beginning.
func (m *modelled) next(begin string) []string {
	var out []string
	for half := range 16 {
		if n := string([]byte{byte(half)}); len(m.beginning(begin+n)) > 0 {
			out = append(out, n)
		}
	}
	return out
}

// packed is how many nibbles there are, then two a byte.
func packed(n string) string {
	b := []byte{byte(len(n))}
	n += "\x00"
	for i := 0; i+1 < len(n); i += 2 {
		b = append(b, n[i]*16+n[i+1])
	}
	return string(b)
}

// sized is how many bytes a value has, then it.
func sized(value string) string {
	return string([]byte{byte(len(value))}) + value
}

// checkPairs holds all calls to what the model says of pairs.
func checkPairs(t *testing.T, name string, l []api.Pair) {
	t.Helper()
	nodes, ok := trie.Build(l)
	if !ok {
		t.Fatalf("%s: there is no trie of %q", name, l)
	}
	items, hashes := model(l)
	checkRoot(t, name, nodes, items, hashes)
}

// P11.1: all sets of a few keys; P11.2: no two of them have one root.
func TestAllSubsets(t *testing.T) {
	seen := map[string]int{}
	for set := range 1 << len(sample.Few()) {
		checkPairs(t, "a subset", sample.Subset(set))
		nodes, _ := trie.Build(sample.Subset(set))
		h, _ := root.Of(nodes)
		if other, ok := seen[h]; ok {
			t.Errorf("%q and %q have one root", sample.Subset(set), sample.Subset(other))
		}
		seen[h] = set
	}
}

// P11.1: mixed pairs, few and many, of keys that begin alike and of others.
func TestMixedPairs(t *testing.T) {
	v := sample.Numbers(1)
	for round := range 300 {
		checkPairs(t, "mixed pairs", v.Some(1+round%40, 2+round%8))
	}
	for range 2 {
		checkPairs(t, "many pairs", v.Some(300, 9))
	}
}

// P11.2: a root hangs on the pairs alone: tries that were made apart of the same pairs have the same one, in whatever order calls come.
func TestSamePairsHaveOneRoot(t *testing.T) {
	v := sample.Numbers(2)
	for round := range 200 {
		l := v.Some(30, 2+round%8)
		nodes, _ := trie.Build(l)
		want, ok := root.Of(nodes)
		if !ok {
			t.Fatalf("no root of %q", l)
		}
		back, _ := trie.Pairs(copied(nodes))
		again, _ := trie.Build(back)
		root.Of(again[:len(again)/2])
		root.All(nil)
		for _, nodes := range []api.Trie{again, nodes, copied(nodes)} {
			if got, ok := root.Of(nodes); got != want || !ok {
				t.Errorf("the root of %q is %x, and then %x, %v", l, want, got, ok)
			}
		}
	}
}

// P11.2: other pairs, be it by one byte, one pair more or one fewer, have another root.
func TestOtherPairsHaveAnotherRoot(t *testing.T) {
	v := sample.Numbers(3)
	for range 100 {
		l := v.Some(12, 4)
		nodes, _ := trie.Build(l)
		h, _ := root.Of(nodes)
		for _, p := range l {
			without := sample.Without(l, p.Key)
			checkOther(t, h, without)
			for _, x := range sample.Near(p) {
				if len(x.Value) > api.MaxValue {
					continue
				}
				checkOther(t, h, sample.With(without, x))
				if !slices.ContainsFunc(l, func(p api.Pair) bool { return p.Key == x.Key }) {
					checkOther(t, h, sample.With(l, x))
				}
			}
		}
	}
}

// checkOther tells if pairs have the root that they should not have.
func checkOther(t *testing.T, not string, l []api.Pair) {
	t.Helper()
	nodes, is := trie.Build(l)
	if h, ok := root.Of(nodes); h == not || !ok || !is {
		t.Errorf("the root of %q is %x, %v, as others' is", l, h, ok)
	}
}

// P11.1: of nodes that were put together by chance: false just if they are no trie; of tries, the hashes that their pairs have.
func TestNodesByChance(t *testing.T) {
	v := sample.Numbers(5)
	good := 0
	for range 40000 {
		nodes := v.Nodes(5)
		l, ok := trie.Pairs(nodes)
		if !ok {
			checkNoTrie(t, "by chance", nodes)
			continue
		}
		if len(nodes) > 2 {
			good++
		}
		items, hashes := model(l)
		checkRoot(t, "by chance", nodes, items, hashes)
	}
	if good < 10 {
		t.Errorf("but %d tries of three nodes and more were among them", good)
	}
}
