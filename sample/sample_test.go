package sample_test

import (
	"slices"
	"strings"
	"testing"

	"umbel/api"
	"umbel/sample"
	"umbel/trie"
)

func rising(l []api.Pair) bool {
	for i := range l[min(1, len(l)):] {
		if l[i].Key >= l[i+1].Key {
			return false
		}
	}
	return true
}

// The longest value is one.
func TestLongest(t *testing.T) {
	if len(sample.Longest) != api.MaxValue {
		t.Errorf("Longest has %d bytes", len(sample.Longest))
	}
}

// Pairs by chance, and of a subset, may be, and rise.
func TestPairsMayBe(t *testing.T) {
	v := sample.Numbers(1)
	lists := [][]api.Pair{sample.Subset(1<<len(sample.Few()) - 1), sample.Worded(), sample.Many()}
	for range 100 {
		lists = append(lists, v.Some(20, 4))
	}
	for _, l := range lists {
		if !rising(l) {
			t.Errorf("%q do not rise", l)
		}
		for _, p := range l {
			if p.Key == "" || len(p.Key) > api.MaxKey || len(p.Value) > api.MaxValue {
				t.Errorf("%q may not be", p)
			}
		}
	}
}

// A pair more, in place of another one, and a pair fewer, the list itself as it was.
func TestWithAndWithout(t *testing.T) {
	l := sample.Pairs("b", "v", "d", "w")
	for _, x := range []struct{ got, want []api.Pair }{
		{sample.With(l, api.Pair{Key: "a"}), sample.Pairs("a", "", "b", "v", "d", "w")},
		{sample.With(l, api.Pair{Key: "c"}), sample.Pairs("b", "v", "c", "", "d", "w")},
		{sample.With(l, api.Pair{Key: "e"}), sample.Pairs("b", "v", "d", "w", "e", "")},
		{sample.With(l, api.Pair{Key: "d"}), sample.Pairs("b", "v", "d", "")},
		{sample.Without(l, "b"), sample.Pairs("d", "w")},
		{sample.Without(l, "c"), l},
		{l, sample.Pairs("b", "v", "d", "w")},
	} {
		if !slices.Equal(x.got, x.want) {
			t.Errorf("%q, want %q", x.got, x.want)
		}
	}
}

// Tangles are as many nodes as are asked for, each of another kind.
func TestTangles(t *testing.T) {
	var names []string
	for name, nodes := range sample.Tangles(10) {
		if len(nodes) != 10 || slices.Contains(names, name) {
			t.Errorf("%s: %d nodes", name, len(nodes))
		}
		names = append(names, name)
	}
	if len(names) < 8 {
		t.Errorf("but %s", strings.Join(names, ", "))
	}
}

// Large is a trie, and Wrong's nodes, each with a name of its own, are none.
func TestTries(t *testing.T) {
	if !trie.Good(sample.Large()) {
		t.Error("Large is no trie")
	}
	var names []string
	for name, nodes := range sample.Wrong() {
		if trie.Good(nodes) || slices.Contains(names, name) {
			t.Errorf("%s: a trie, or there already", name)
		}
		names = append(names, name)
	}
	if len(names) < 18 {
		t.Errorf("but %s", strings.Join(names, ", "))
	}
}

// Spoil writes over a list's spare room too, and Texts has those of two bytes and more.
func TestSpoilAndTexts(t *testing.T) {
	l := append(make([]int, 0, 8), 1, 2, 3)
	sample.Spoil(l[:1], 7)
	if !slices.Equal(l[:8], slices.Repeat([]int{7}, 8)) {
		t.Errorf("a list of %d", l[:8])
	}
	got := sample.Texts(api.Trie{sample.Leaf("\x01\x02", "v"), sample.Valued("vv")}, sample.Pairs("a", "bb", "cc", ""))
	if !slices.Equal(got, []string{"\x01\x02", "vv", "bb", "cc"}) {
		t.Errorf("the texts are %q", got)
	}
}
