package get_test

import (
	"slices"
	"testing"
	"unsafe"

	"umbel/api"
	"umbel/get"
	"umbel/sample"
	"umbel/trie"
)

// within tells whether the two texts share memory.
func within(a, b string) bool {
	if len(a) == 0 || len(b) == 0 {
		return false
	}
	x, y := uintptr(unsafe.Pointer(unsafe.StringData(a))), uintptr(unsafe.Pointer(unsafe.StringData(b)))
	return x < y+uintptr(len(b)) && y < x+uintptr(len(a))
}

// Rules 2 and 4: a value shares no memory with the trie, the key or another answer, and hangs on no call ahead of it.
func TestAnswersStandByThemselves(t *testing.T) {
	nodes := build(t, sample.Worded())
	l, _ := trie.Pairs(nodes)
	seen := sample.Texts(nodes, nil)
	for range 2 {
		for _, p := range l {
			a, e := get.Of(nodes, p.Key)
			if a != has(p.Value) || e != api.OK {
				t.Errorf("Of %q: %#v, %d, want %q", p.Key, a, e, p.Value)
			}
			for _, other := range append(seen, p.Key) {
				if within(a.Value, other) {
					t.Errorf("the value %q of %q shares memory with %q", a.Value, p.Key, other)
				}
			}
			seen = append(seen, a.Value)
		}
	}
}

// Rule 2: what one way is made to be, its spare room too, is not to be seen in another one.
func TestWaysAreApart(t *testing.T) {
	nodes := build(t, sample.Worded())
	one, _ := get.Walk(nodes, "abcefgh")
	other, _ := get.Walk(nodes, "abcefgh")
	want := slices.Clone(one)
	sample.Spoil(other, -1)
	again, _ := get.Walk(nodes, "abcefgh")
	if !slices.Equal(one, want) || !slices.Equal(again, want) || len(want) < 4 {
		t.Errorf("Walk tells %d, then %d, want %d", one, again, want)
	}
	none, _ := get.Walk(nil, "a")
	sample.Spoil(none, -1)
	if again, e := get.Walk(nil, "a"); len(again) != 0 || e != api.OK {
		t.Errorf("Walk of no nodes tells %d, %d", again, e)
	}
}

// Rule 2: the nodes stay as they are, their spare room too, and are not kept.
func TestNodesStay(t *testing.T) {
	nodes := append(build(t, sample.Worded()), leaf("\x01", "spare"), ext("\x02", 7))
	want := slices.Clone(nodes)
	given := nodes[:len(nodes)-2]
	for _, key := range []string{"abcd1234", "abce", "a", "zyx", "", "too long a key"} {
		get.Of(given, key)
		get.Walk(given, key)
		get.Of(nodes, key)
		get.Walk(nodes[:3], key)
	}
	if !trie.Same(nodes, want) {
		t.Errorf("the nodes are %#v", nodes)
	}
	given[len(given)-1].Value = "another"
	if a, e := get.Of(given, "zyx"); a != has("another") || e != api.OK {
		t.Errorf("Of tells %#v, %d, as it was of another value", a, e)
	}
}

// Rule 1: each call ends, of nodes whose children are many ways to the same ones, or one far beneath the other.
func TestCallsEnd(t *testing.T) {
	for name, nodes := range sample.Tangles(100000) {
		for _, key := range []string{"", "\x01", "\x01\x01\x01\x01\x01\x01\x01\x01", "\x01\x23\x45\x67", "123456789"} {
			checkRefused(t, name, nodes, key, api.ErrArg)
		}
	}
}

// P12.1: as many pairs as make a trie far larger than a file's.
func TestVeryManyPairs(t *testing.T) {
	nodes := build(t, sample.Many())
	last := len(nodes) - 1
	checkLast(t, nodes, "\x07\x3f\xff", last, has("\xff\x3f"))
	checkLast(t, nodes, "\x07\x00\x00", 5, has("\x00\x00"))
	checkLast(t, nodes, "\x07\x3f\xff\x00", last, api.Answer{})
	checkLast(t, nodes, "\x07\x40", 1, api.Answer{})
	checkLast(t, nodes, "\x08", 0, api.Answer{})
}

// checkLast holds both calls to a key's answer and the last node of its way.
func checkLast(t *testing.T, nodes api.Trie, key string, last int, want api.Answer) {
	t.Helper()
	way, e := get.Walk(nodes, key)
	a, f := get.Of(nodes, key)
	if len(way) == 0 || way[0] != 0 || way[len(way)-1] != last || !slices.IsSorted(way) || a != want || e != api.OK || f != api.OK {
		t.Errorf("%x: %d, %d, %#v, %d, want a way to %d, and %#v", key, way, e, a, f, last, want)
	}
}
