package drop_test

import (
	"slices"
	"testing"
	"unsafe"

	"umbel/api"
	"umbel/drop"
	"umbel/sample"
)

// within tells whether the two texts share memory.
func within(a, b string) bool {
	if len(a) == 0 || len(b) == 0 {
		return false
	}
	x, y := uintptr(unsafe.Pointer(unsafe.StringData(a))), uintptr(unsafe.Pointer(unsafe.StringData(b)))
	return x < y+uintptr(len(b)) && y < x+uintptr(len(a))
}

// spoilt is a node that is in no trie.
var spoilt = api.Node{Kind: 9}

// Rules 2 and 4: an answer shares no memory with an argument or another answer, and hangs on no call ahead of it, be the key there or not.
func TestAnswersStandByThemselves(t *testing.T) {
	l := sample.Worded()
	nodes := build(t, l)
	keys := []string{"zzz", "abcd", "abcd1235"}
	for _, p := range l {
		keys = append(keys, p.Key)
	}
	seen := append(sample.Texts(nodes, l), keys...)
	for range 2 {
		for _, key := range keys {
			got, _, e := drop.Of(nodes, key)
			if want := build(t, sample.Without(l, key)); !slices.Equal(got, want) || e != api.OK {
				t.Errorf("Of %q: %#v, %d, want %#v", key, got, e, want)
			}
			for _, s := range sample.Texts(got, nil) {
				if slices.ContainsFunc(seen, func(other string) bool { return within(s, other) }) {
					t.Errorf("without %q: %q shares memory with another text", key, s)
				}
				seen = append(seen, s)
			}
		}
	}
}

// Rule 2: what one answer is made to be, its spare room too, is not to be seen in another one, nor in what was handed in.
func TestListsAreApart(t *testing.T) {
	l := sample.Worded()
	nodes := build(t, l)
	for _, key := range []string{"zyx", "abce", "absent"} {
		one, _, _ := drop.Of(nodes, key)
		other, _, _ := drop.Of(nodes, key)
		sample.Spoil(other, spoilt)
		if want := build(t, sample.Without(l, key)); !slices.Equal(one, want) {
			t.Errorf("without %q: %#v behind a change of another answer", key, one)
		}
		sample.Spoil(one, spoilt)
	}
	if !slices.Equal(nodes, build(t, l)) {
		t.Errorf("the nodes are %#v", nodes)
	}
	none, _, _ := drop.Of(nil, "a")
	sample.Spoil(none, spoilt)
	last, _, _ := drop.Of(build(t, pairs("a", "v")), "a")
	sample.Spoil(last, spoilt)
	checkAbsent(t, "no nodes", nil, "a")
}

// Rule 2: what is handed in stays as it is, its spare room too, and is not kept.
func TestArgumentsStay(t *testing.T) {
	l := sample.Worded()
	nodes := append(build(t, l), make(api.Trie, 20)...)
	nodes[len(nodes)-1] = leaf("\x01", "spare")
	was := slices.Clone(nodes)
	given := nodes[:len(nodes)-20]
	kept, _, _ := drop.Of(given, "abcd1234")
	same, _, _ := drop.Of(given, "absent")
	for at := range len(given) + 1 {
		for _, p := range l {
			drop.Of(given[:at], p.Key)
		}
		drop.Of(given[:at], "abcz")
		drop.Of(given[:at], "")
	}
	if !slices.Equal(nodes, was) {
		t.Errorf("the nodes are %#v", nodes)
	}
	sample.Spoil(nodes, spoilt)
	if want := build(t, sample.Without(l, "abcd1234")); !slices.Equal(kept, want) {
		t.Errorf("an answer is %#v, as its nodes were changed, and was %#v", kept, want)
	}
	if !slices.Equal(same, build(t, l)) {
		t.Errorf("an answer without a change is %#v, as its nodes were changed", same)
	}
}

// Rule 1: each call ends, of nodes whose children are many ways to the same ones, or one far beneath the other.
func TestCallsEnd(t *testing.T) {
	for name, nodes := range sample.Tangles(100000) {
		for _, key := range []string{"", "\x01", "\x01\x01\x01\x01\x01\x01\x01\x01", "\x01\x23\x45\x67", "123456789"} {
			checkRefused(t, name, nodes, key, api.ErrArg)
		}
	}
}

// P14.1: of as many pairs as make a trie far larger than a file's.
func TestVeryManyPairs(t *testing.T) {
	l := sample.Many()
	nodes := build(t, l)
	for _, key := range []string{"\x07\x00\x00", "\x07\x1f\x80", "\x07\x3f\xff"} {
		got, was, e := drop.Of(nodes, key)
		if want := build(t, sample.Without(l, key)); !slices.Equal(got, want) || !was || e != api.OK {
			t.Errorf("without %x: %d nodes, %t, %d, want %d, true, OK", key, len(got), was, e, len(want))
		}
	}
	for _, key := range []string{"\x07", "\x07\x20", "\x07\x40\x00", "\x08"} {
		if got, was, e := drop.Of(nodes, key); !slices.Equal(got, nodes) || was || e != api.OK {
			t.Errorf("without %x: %d nodes, %t, %d, want %d, false, OK", key, len(got), was, e, len(nodes))
		}
	}
}
