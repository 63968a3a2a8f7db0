package draft_test

import (
	"slices"
	"testing"

	"umbel/api"
	"umbel/draft"
	"umbel/sample"
)

// Nodes that were opened and not changed are laid as they were, none as none.
func TestUnchanged(t *testing.T) {
	for _, nodes := range []api.Trie{nil, {}, {sample.Leaf("\x01\x02", "v")}, sample.Large()} {
		if got := draft.Open(nodes).Lay(); !slices.Equal(got, nodes) {
			t.Errorf("%#v is laid as %#v", nodes, got)
		}
	}
}

// An empty place is there to be filled, of no nodes alone.
func TestAnEmptyPlace(t *testing.T) {
	d := draft.Open(nil)
	if len(d) != 1 || d[0] != (api.Node{}) {
		t.Fatalf("no nodes are opened as %#v", d)
	}
	d[0] = draft.Leaf("\x01\x02", "v")
	if got := d.Lay(); !slices.Equal(got, api.Trie{sample.Leaf("\x01\x02", "v")}) {
		t.Errorf("a Leaf is laid as %#v", got)
	}
	if len(draft.Open(sample.Large())) != len(sample.Large()) {
		t.Error("nodes are opened as others")
	}
}

// The nodes may stand in any order but for the first one, and what none leads to is not laid.
func TestAnyOrder(t *testing.T) {
	nodes := sample.Large()
	want := slices.Clone(nodes)
	for a := 1; a < len(nodes); a++ {
		for b := 1; b < a; b++ {
			d := draft.Nodes(slices.Clone(nodes))
			d[a], d[b] = d[b], d[a]
			for i := range d {
				for half, kid := range d[i].Kids {
					switch kid {
					case a:
						d[i].Kids[half] = b
					case b:
						d[i].Kids[half] = a
					}
				}
			}
			d = append(d, sample.Leaf("\x01", "gone"))
			if got := d.Lay(); !slices.Equal(got, want) {
				t.Errorf("with %d and %d changed for one another: %#v", a, b, got)
			}
		}
	}
}

// What is opened is not the trie itself, nor is what is laid the draft.
func TestApart(t *testing.T) {
	nodes := sample.Large()
	d := draft.Open(nodes)
	laid := d.Lay()
	sample.Spoil(d, api.Node{Kind: 9})
	if !slices.Equal(nodes, sample.Large()) || !slices.Equal(laid, sample.Large()) {
		t.Errorf("behind a change of a draft the nodes are %#v, those laid %#v", nodes, laid)
	}
}
