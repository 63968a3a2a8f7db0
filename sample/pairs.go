// Package sample has what the tests of several layers are made with: pairs and nodes, written out or mixed. No layer calls it.
package sample

import (
	"slices"
	"strings"

	"umbel/api"
)

// Longest has api.MaxValue bytes.
const Longest = "0123456789abcdef"

// Pairs has keys and values by turns.
func Pairs(l ...string) []api.Pair {
	var out []api.Pair
	for i := 1; i < len(l); i += 2 {
		out = append(out, api.Pair{Key: l[i-1], Value: l[i]})
	}
	return out
}

// With has rising pairs and one more, which takes the place of that with its key.
func With(l []api.Pair, p api.Pair) []api.Pair {
	at, has := place(l, p.Key)
	out := slices.Clone(l)
	if has {
		out[at] = p
		return out
	}
	return slices.Insert(out, at, p)
}

// Without has rising pairs, but not that with the key.
func Without(l []api.Pair, key string) []api.Pair {
	return slices.DeleteFunc(slices.Clone(l), func(p api.Pair) bool { return p.Key == key })
}

// place has where a key stands among rising pairs, or would stand, and whether it does.
func place(l []api.Pair, key string) (int, bool) {
	return slices.BinarySearchFunc(l, key, func(p api.Pair, key string) int { return strings.Compare(p.Key, key) })
}

// Near has pairs that part from p in one byte of the value or the key, or in all of the key; the values of the longest one's are too long.
func Near(p api.Pair) []api.Pair {
	return Pairs(p.Key, p.Value+"\x00", p.Key[:len(p.Key)-1]+"\xee", p.Value, "\xee", p.Value)
}

// Few has keys, rising, that part in first, second and last nibbles, and begin one another.
func Few() []string {
	return []string{"\x00", "\x00\x00", "\x00\x01", "\x00\x10", "\x00\x10\x00", "\x01", "\x01\x23\x45\x67\x89\xab\xcd\xee", "\x01\x23\x45\x67\x89\xab\xcd\xef", "\x10", "\xf0", "\xff"}
}

// Subset has the pairs of those of Few whose bit is set.
func Subset(set int) []api.Pair {
	var l []api.Pair
	for i, key := range Few() {
		if set>>i&1 == 1 {
			l = append(l, api.Pair{Key: key, Value: Longest[:i]})
		}
	}
	return l
}

// Many has pairs, rising, of which a trie is made that is far larger than a file's.
func Many() []api.Pair {
	var l []api.Pair
	for a := range 64 {
		for b := range 256 {
			l = append(l, api.Pair{Key: string([]byte{7, byte(a), byte(b)}), Value: string([]byte{byte(b), byte(a)})})
		}
	}
	return l
}
