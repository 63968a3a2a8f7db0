package put_test

import (
	"slices"
	"strings"
	"testing"
	"unsafe"

	"umbel/api"
	"umbel/put"
	"umbel/sample"
)

// within tells whether the two texts share memory.
func within(a, b string) bool {
	if len(a) == 0 || len(b) == 0 {
		return false
	}
	x, y := uintptr(unsafe.Pointer(unsafe.StringData(a))), uintptr(unsafe.Pointer(unsafe.StringData(b)))
	return x < y+uintptr(len(b)) && y < x+uintptr(len(a))
}

// checkApart tells which texts share memory, those of one list among themselves too, unless it is an argument.
func checkApart(t *testing.T, argument []string, answers ...[]string) {
	t.Helper()
	seen := slices.Clone(argument)
	for _, l := range answers {
		for _, s := range l {
			for _, other := range seen {
				if within(s, other) {
					t.Errorf("%q and %q share memory", s, other)
				}
			}
			seen = append(seen, s)
		}
	}
}

// spoilt is a node that is in no trie.
var spoilt = api.Node{Kind: 9}

// Rules 2 and 4: an answer shares no memory with an argument or another answer, and hangs on no call ahead of it.
func TestAnswersStandByThemselves(t *testing.T) {
	nodes := build(t, sample.Worded())
	l := pairs("abcd1235", "another value", "ab", "one of a Branch", "abcd56", "within an Ext", "zyx", "a Leaf's place", "abce", "a Branch's place", "abcd5678", "of a parted Leaf", "new", "beside all")
	want := build(t, pairs("ab", "one of a Branch", "abcd1234", "the first value", "abcd1235", "another value", "abcd56", "within an Ext", "abcd5678", "of a parted Leaf", "abce", "a Branch's place", "abcefgh", "the first value", "new", "beside all", "zyx", "a Leaf's place"))
	var answers [][]string
	for range 2 {
		all, e := put.All(nodes, l)
		if !slices.Equal(all, want) || e != api.OK {
			t.Errorf("All: %#v, %d, want %#v", all, e, want)
		}
		none, _ := put.All(nodes, nil)
		answers = append(answers, sample.Texts(all, nil), sample.Texts(none, nil))
		for _, p := range l {
			one, _ := put.Of(nodes, p.Key, p.Value)
			answers = append(answers, sample.Texts(one, nil))
			first, _ := put.Of(nil, p.Key, p.Value)
			answers = append(answers, sample.Texts(first, nil))
		}
	}
	checkApart(t, sample.Texts(nodes, l), answers...)
}

// Rule 2: what one answer is made to be, its spare room too, is not to be seen in another one, nor in what was handed in.
func TestListsAreApart(t *testing.T) {
	nodes := build(t, sample.Worded())
	for _, l := range [][]api.Pair{nil, pairs("zyx", longest), pairs("zyx", "other"), pairs("new", "v")} {
		one, _ := put.All(nodes, l)
		other, _ := put.All(nodes, l)
		sample.Spoil(other, spoilt)
		if want := model(t, nodes, l); !slices.Equal(one, want) {
			t.Errorf("All(%q) is %#v behind a change of another answer", l, one)
		}
		sample.Spoil(one, spoilt)
	}
	if !slices.Equal(nodes, build(t, sample.Worded())) {
		t.Errorf("the nodes are %#v", nodes)
	}
	none, _ := put.All(nil, nil)
	sample.Spoil(none, spoilt)
	if again, e := put.All(nil, nil); len(again) != 0 || e != api.OK {
		t.Errorf("All of nothing tells %#v, %d", again, e)
	}
}

// Rule 2: what is handed in stays as it is, its spare room too, and is not kept.
func TestArgumentsStay(t *testing.T) {
	nodes := append(build(t, sample.Worded()), make(api.Trie, 40)...)
	nodes[len(nodes)-1] = leaf("\x01", "spare")
	was := slices.Clone(nodes)
	given := nodes[:len(build(t, sample.Worded()))]
	l := append(pairs("b", "2", "a", "1", "abce", "3", "abcd1234", "", "abcd", "5"), pairs("spare", "room")...)
	pairsWere := slices.Clone(l)
	kept, _ := put.All(given, l[:5])
	for at := range len(given) + 1 {
		put.All(given[:at], l[:5])
		put.All(given[:at], l[:1])
		put.Of(given[:at], "abcz", "v")
		put.Of(given[:at], "", "v")
	}
	if !slices.Equal(nodes, was) || !slices.Equal(l, pairsWere) {
		t.Errorf("the nodes are %#v, the pairs %q", nodes, l)
	}
	want := slices.Clone(kept)
	sample.Spoil(nodes, spoilt)
	l[0].Value = "another"
	if !slices.Equal(kept, want) {
		t.Errorf("an answer is %#v, as its arguments were changed, and was %#v", kept, want)
	}
	if again, e := put.All(build(t, sample.Worded()), pairsWere[:5]); !slices.Equal(again, want) || e != api.OK {
		t.Errorf("All tells %#v, %d, and told %#v", again, e, want)
	}
}

// Rule 1: each call ends, of nodes whose children are many ways to the same ones, or one far beneath the other.
func TestCallsEnd(t *testing.T) {
	for name, nodes := range sample.Tangles(100000) {
		for _, key := range []string{"", "\x01", "\x01\x01\x01\x01\x01\x01\x01\x01", "\x01\x23\x45\x67", "123456789"} {
			checkRefused(t, name, nodes, key, "v", api.ErrArg)
		}
	}
}

// P13.1, P13.2: as many pairs as make a trie far larger than a file's, falling and rising, and as many of one key.
func TestVeryManyPairs(t *testing.T) {
	l := sample.Many()
	want := build(t, l)
	checkVeryMany(t, "rising", nil, l, want)
	slices.Reverse(l)
	checkVeryMany(t, "falling", nil, l, want)
	checkVeryMany(t, "all again", want, l, want)
	same := slices.Repeat(pairs("\x07\x00\x00", "v", "\x07\x00\x00", "\x00\x00"), 10000)
	checkVeryMany(t, "one key", want, same, want)
	slices.Reverse(l)
	checkVeryMany(t, "one more", want, pairs("\x07\x20", "in the midst"), build(t, sample.With(l, api.Pair{Key: "\x07\x20", Value: "in the midst"})))
	checkAllRefused(t, "the last may not be", want, append(l, api.Pair{Key: strings.Repeat("k", 9)}), api.ErrKey)
}

func checkVeryMany(t *testing.T, name string, nodes api.Trie, l []api.Pair, want api.Trie) {
	t.Helper()
	if got, e := put.All(nodes, l); !slices.Equal(got, want) || e != api.OK {
		t.Errorf("%s: %d nodes, %d, want %d, OK", name, len(got), e, len(want))
	}
}
