package root_test

import (
	"slices"
	"strings"
	"testing"
	"unsafe"

	"umbel/api"
	"umbel/root"
	"umbel/sample"
	"umbel/trie"
)

// within tells whether the two texts share memory.
func within(a, b string) bool {
	if len(a) == 0 || len(b) == 0 {
		return false
	}
	x, y := uintptr(unsafe.Pointer(unsafe.StringData(a))), uintptr(unsafe.Pointer(unsafe.StringData(b)))
	return x < y+uintptr(len(b)) && y < x+uintptr(len(a))
}

// textsOf has all texts of nodes.
func textsOf(nodes api.Trie) []string {
	var out []string
	for _, n := range nodes {
		out = append(out, n.Path, n.Value)
	}
	return out
}

// textsIn has all texts of an Item.
func textsIn(i api.Item) []string {
	return append(slices.Clone(i.Hashes), i.Path, i.Value)
}

// checkApart tells which texts share memory, those of one list among themselves too, unless it is an argument.
func checkApart(t *testing.T, argument []string, answers ...[]string) {
	t.Helper()
	seen := slices.Clone(argument)
	for _, l := range answers {
		for _, s := range l {
			// Texts of one byte may stand in memory that never changes.
			if len(s) < 2 {
				continue
			}
			for _, other := range seen {
				if within(s, other) {
					t.Errorf("%q and %q share memory", s, other)
				}
			}
			seen = append(seen, s)
		}
	}
}

// shared has nodes with long Paths and values, of which some are alike.
func shared() api.Trie {
	nodes, _ := trie.Build(pairs("abcd1234", "the first value", "abcd5678", "the second one", "abce", "the third", "abcefgh", "the fourth value", "abcz1234", "the first value", "zyx", longest))
	return nodes
}

// Rules 2 and 4: an answer shares no memory with an argument or another answer, and hangs on no call ahead of it.
func TestAnswersStandByThemselves(t *testing.T) {
	nodes := shared()
	l, _ := root.All(nodes)
	more, _ := root.All(nodes)
	top, _ := root.Of(nodes)
	again, _ := root.Of(nodes)
	answers := [][]string{l, more, {top}, {again}, {root.Empty()}, {root.Empty()}}
	for range 2 {
		for i := range nodes {
			x, _ := root.Item(nodes, i)
			answers = append(answers, textsIn(x))
		}
	}
	none, _ := root.Of(nil)
	checkApart(t, textsOf(nodes), append(answers, []string{none})...)
	if !slices.Equal(l, more) || top != again || l[0] != top {
		t.Error("another answer a second time")
	}
}

// Rule 2: what one answer's list is made to be, its spare room too, is not to be seen in another one.
func TestListsAreApart(t *testing.T) {
	nodes := shared()
	l, _ := root.All(nodes)
	want := slices.Clone(l)
	more, _ := root.All(nodes)
	sample.Spoil(more, "spoilt")
	for i := range nodes {
		x, _ := root.Item(nodes, i)
		items, _ := model(pairsOf(nodes))
		y, _ := root.Item(nodes, i)
		sample.Spoil(y.Hashes, "spoilt")
		if !sameItem(x, items[i]) {
			t.Errorf("Item %d is %#v behind a change of another answer, want %#v", i, x, items[i])
		}
		sample.Spoil(x.Hashes, "spoilt")
	}
	if again, _ := root.All(nodes); !slices.Equal(l, want) || !slices.Equal(again, want) {
		t.Errorf("All tells %x, then %x, want %x", l, again, want)
	}
	none, _ := root.All(nil)
	sample.Spoil(none, "spoilt")
}

func pairsOf(nodes api.Trie) []api.Pair {
	l, _ := trie.Pairs(nodes)
	return l
}

// Rule 2: what is handed in stays as it is, its spare room too, and is not kept.
func TestArgumentsStay(t *testing.T) {
	nodes := append(shared(), leaf("\x01", "spare"), ext("\x02", 7))
	want := copied(nodes)
	given := nodes[:len(nodes)-2]
	h, _ := root.Of(given)
	for at := range nodes {
		root.Of(given[:min(at, len(given))])
		root.All(given[:min(at, len(given))])
		root.All(nodes[:at])
		root.Item(given, at)
		root.Item(nodes, at)
	}
	if !trie.Same(nodes, want) {
		t.Errorf("the nodes are %#v", nodes)
	}
	given[len(given)-1].Value = "another"
	if other, ok := root.Of(given); other == h || !ok {
		t.Errorf("Of is %x, %v, as it was of another value", other, ok)
	}
	if again, _ := root.Of(shared()); again != h {
		t.Errorf("Of is %x, and was %x", again, h)
	}
}

// Rule 1: each call ends, of nodes whose children are many ways to the same ones, or one far beneath the other.
func TestCallsEnd(t *testing.T) {
	for name, nodes := range sample.Tangles(100000) {
		checkEnds(t, name, nodes)
	}
}

func checkEnds(t *testing.T, name string, nodes api.Trie) {
	t.Helper()
	if h, ok := root.Of(nodes); ok || h != "" {
		t.Errorf("%s: Of tells %x, %v", name, h, ok)
	}
	if l, ok := root.All(nodes); ok || len(l) != 0 {
		t.Errorf("%s: All tells %d, %v", name, len(l), ok)
	}
	for _, i := range []int{-1, 0, 1, len(nodes) / 2, len(nodes) - 1, len(nodes)} {
		checkNoItem(t, name, nodes, i)
	}
}

// P11.1: as many pairs as make a trie far larger than a file's: each hash is that of its node's Item.
func TestVeryManyPairs(t *testing.T) {
	var l []api.Pair
	for a := range 64 {
		for b := range 256 {
			l = append(l, api.Pair{Key: string([]byte{7, byte(a), byte(b)}), Value: string([]byte{byte(b)})})
		}
	}
	nodes, _ := trie.Build(l)
	hashes, ok := root.All(nodes)
	if want := 1 + 1 + 4 + 64 + 1024 + 16384; len(hashes) != want || !ok {
		t.Fatalf("All: %d, %v, want %d", len(hashes), ok, want)
	}
	// The last child of a Branch stands last of all that is beneath it.
	for _, x := range []struct {
		i    int
		want string
	}{
		{len(nodes) - 1, "\x01\x00\x01\xff"},
		{len(nodes) - 17, "\x03\xff\xff\x00" + strings.Join(hashes[len(nodes)-16:], "")},
		{0, "\x02\x02\x07" + hashes[1]},
	} {
		if hashes[x.i] != hashed(x.want) {
			t.Errorf("the hash of node %d is %x, want that of %x", x.i, hashes[x.i], x.want)
		}
	}
	i, ok := root.Item(nodes, len(nodes)-17)
	if !ok || i.Mask != 0xffff || !slices.Equal(i.Hashes, hashes[len(nodes)-16:]) {
		t.Errorf("Item of the last Branch: %#v, %v", i, ok)
	}
	if h, ok := root.Of(nodes); h != hashes[0] || !ok {
		t.Errorf("Of: %x, %v, want %x", h, ok, hashes[0])
	}
}
