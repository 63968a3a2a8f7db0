package trie_test

import (
	"slices"
	"testing"
	"unsafe"

	"umbel/api"
	"umbel/sample"
	"umbel/trie"
)

// within tells whether the two texts share memory.
func within(a, b string) bool {
	if len(a) == 0 || len(b) == 0 {
		return false
	}
	x, y := uintptr(unsafe.Pointer(unsafe.StringData(a))), uintptr(unsafe.Pointer(unsafe.StringData(b)))
	return x < y+uintptr(len(b)) && y < x+uintptr(len(a))
}

// textsOf has all texts of pairs, nodes and paths.
func textsOf(l []api.Pair, nodes api.Trie, paths []string) []string {
	out := slices.Clone(paths)
	for _, p := range l {
		out = append(out, p.Key, p.Value)
	}
	for _, n := range nodes {
		out = append(out, n.Path, n.Value)
	}
	// Texts of one byte may stand in memory that never changes.
	return slices.DeleteFunc(out, func(s string) bool { return len(s) < 2 })
}

// checkApart tells which texts share memory, those of one list among themselves too, unless it is an argument.
func checkApart(t *testing.T, argument []string, answers ...[]string) {
	t.Helper()
	seen := slices.Clone(argument)
	for _, l := range answers {
		for _, s := range l {
			for _, other := range seen {
				if within(s, other) {
					t.Errorf("%q and %q share memory", s, other)
				}
			}
			seen = append(seen, s)
		}
	}
}

// shared has pairs whose trie has Exts and Leaves of long Paths.
func shared() []api.Pair {
	return pairs("abcd1234", "the first value", "abcd5678", "the second one", "abce", "the third", "abcefgh", "the fourth value", "zyx", longest)
}

// Rules 2 and 4: an answer shares no memory with an argument or another answer, and hangs on no call ahead of it.
func TestAnswersStandByThemselves(t *testing.T) {
	l := shared()
	nodes, _ := trie.Build(l)
	more, _ := trie.Build(l)
	checkApart(t, textsOf(l, nil, nil), textsOf(nil, nodes, nil), textsOf(nil, more, nil))
	back, _ := trie.Pairs(nodes)
	backs, _ := trie.Pairs(nodes)
	paths, _ := trie.Paths(nodes)
	ways, _ := trie.Paths(nodes)
	checkApart(t, textsOf(l, nodes, nil), textsOf(back, nil, nil), textsOf(backs, nil, nil), textsOf(nil, nil, paths), textsOf(nil, nil, ways))
	if !slices.Equal(back, backs) || !slices.Equal(paths, ways) || !slices.Equal(nodes, more) || !slices.Equal(back, l) {
		t.Error("another answer a second time")
	}
	top, _ := trie.Build(pairs("abcd", "v", "abce", "w"))
	paths, _ = trie.Paths(top)
	checkApart(t, textsOf(nil, top, nil), textsOf(nil, nil, paths))
}

// Rule 2: what one answer's list is made to be, its spare room too, is not to be seen in another one, nor in what was handed in.
func TestListsAreApart(t *testing.T) {
	l := append(shared(), api.Pair{Key: "spare", Value: "room"})[:5]
	nodes, _ := trie.Build(l)
	other, _ := trie.Build(l)
	spoil(other[:cap(other)], api.Node{Kind: 9})
	back, _ := trie.Pairs(nodes)
	paths, _ := trie.Paths(nodes)
	one, _ := trie.Pairs(nodes)
	spoil(one[:cap(one)], api.Pair{Key: "spoilt"})
	two, _ := trie.Paths(nodes)
	spoil(two[:cap(two)], "spoilt")
	if !slices.Equal(l, shared()) || l[:6][5].Key != "spare" {
		t.Errorf("the pairs are %q", l[:6])
	}
	checkTrie(t, "behind a change of other answers", l, nodes, paths)
	if !slices.Equal(back, l) {
		t.Errorf("Pairs' answer is %q", back)
	}
}

func spoil[T any](l []T, with T) {
	for i := range l {
		l[i] = with
	}
}

// Rule 2: what is handed in stays as it is, its spare room too, and is not kept.
func TestArgumentsStay(t *testing.T) {
	nodes := append(large(), leaf("\x01", "spare"), ext("\x02", 7))
	want := copied(nodes)
	given := nodes[:len(large())]
	trie.Good(given)
	trie.Pairs(given)
	trie.Paths(given)
	trie.Same(given, nodes)
	for at := range given {
		trie.Good(given[:at])
		trie.Pairs(given[:at])
		trie.Paths(given[:at])
	}
	if !trie.Same(nodes, want) {
		t.Errorf("the nodes are %#v", nodes)
	}
	l := shared()
	built, _ := trie.Build(l)
	l[0].Value = "another"
	if again, _ := trie.Build(shared()); !trie.Same(built, again) {
		t.Error("a trie has changed with the pairs that it was made of")
	}
}

// Rule 1: each call ends, of nodes whose children are many ways to the same ones, or one far beneath the other.
func TestCallsEnd(t *testing.T) {
	for name, nodes := range sample.Tangles(200000) {
		checkEnds(t, name, nodes)
	}
}

func checkEnds(t *testing.T, name string, nodes api.Trie) {
	t.Helper()
	if trie.Good(nodes) || !trie.Same(nodes, copied(nodes)) {
		t.Errorf("%s: a trie", name)
	}
	if l, ok := trie.Pairs(nodes); ok || len(l) != 0 {
		t.Errorf("%s: Pairs tells %d", name, len(l))
	}
	if l, ok := trie.Paths(nodes); ok || len(l) != 0 {
		t.Errorf("%s: Paths tells %d", name, len(l))
	}
}

// P10.1: as many pairs as make a trie far larger than a file's.
func TestVeryManyPairs(t *testing.T) {
	var l []api.Pair
	for a := range 256 {
		for b := range 256 {
			l = append(l, api.Pair{Key: string([]byte{7, byte(a), byte(b)}), Value: string([]byte{byte(b)})})
		}
	}
	nodes, ok := trie.Build(l)
	if want := 1 + 1 + 16 + 256 + 4096 + 65536; len(nodes) != want || !ok || !trie.Good(nodes) {
		t.Fatalf("Build: %d nodes, %v, want %d", len(nodes), ok, want)
	}
	if back, ok := trie.Pairs(nodes); !ok || !slices.Equal(back, l) {
		t.Errorf("Pairs: %d, %v", len(back), ok)
	}
	paths, ok := trie.Paths(nodes)
	if !ok || len(paths) != len(nodes) || paths[len(paths)-1] != "\x00\x07\x0f\x0f\x0f\x0f" {
		t.Errorf("Paths: %d, %v", len(paths), ok)
	}
}
