package node_test

import (
	"crypto/sha256"
	"encoding/hex"
	"math"
	"reflect"
	"strings"
	"testing"

	"umbel/api"
	"umbel/node"
)

// most is as many nibbles as a Path may have.
const most = 16

// allNibbles has each nibble once: as many as there may be.
const allNibbles = "\x00\x01\x02\x03\x04\x05\x06\x07\x08\x09\x0a\x0b\x0c\x0d\x0e\x0f"

// mixed is a text of some size whose bytes follow no plain rule; other seeds tell others.
func mixed(size int, seed uint32) string {
	b := make([]byte, size)
	v := seed*2654435761 + uint32(size) + 1
	for i := range b {
		v = v*1664525 + 1013904223
		b[i] = byte(v >> 24)
	}
	return string(b)
}

// hashes has that many hashes, each another one.
func hashes(count int, seed uint32) []string {
	var l []string
	for i := range count {
		l = append(l, mixed(api.HashSize, seed+uint32(i)))
	}
	return l
}

// bitsOf is how many bits of a mask are 1.
func bitsOf(mask int) int {
	count := 0
	for bit := range 16 {
		count += mask >> bit & 1
	}
	return count
}

func leaf(path, value string) api.Item {
	return api.Item{Kind: api.Leaf, Path: path, Has: true, Value: value}
}

func ext(path, hash string) api.Item {
	return api.Item{Kind: api.Ext, Path: path, Mask: 1, Hashes: []string{hash}}
}

func bare(mask int) api.Item {
	return api.Item{Kind: api.Branch, Mask: mask, Hashes: hashes(bitsOf(mask), uint32(mask))}
}

func valued(mask int, value string) api.Item {
	i := bare(mask)
	i.Has, i.Value = true, value
	return i
}

// packed is the nibbles as the text has them: how many, then two a byte.
func packed(n string) string {
	b := []byte{byte(len(n))}
	for i := 0; i < len(n); i += 2 {
		half := byte(0)
		if i+1 < len(n) {
			half = n[i+1]
		}
		b = append(b, n[i]*16+half)
	}
	return string(b)
}

// laid is the text that the chapter says, of an Item that may be.
func laid(i api.Item) string {
	b := []byte{byte(i.Kind)}
	switch i.Kind {
	case api.Leaf:
		b = append(b, packed(i.Path)...)
		b = append(b, byte(len(i.Value)))
		b = append(b, i.Value...)
	case api.Ext:
		b = append(b, packed(i.Path)...)
	case api.Branch:
		b = append(b, byte(i.Mask/256), byte(i.Mask%256))
		if i.Has {
			b = append(b, 1, byte(len(i.Value)))
			b = append(b, i.Value...)
		} else {
			b = append(b, 0)
		}
	}
	for _, h := range i.Hashes {
		b = append(b, h...)
	}
	return string(b)
}

// items has ordinary Items, and the edges of each kind; no two of them are one.
func items() []api.Item {
	l := leaves()
	l = append(l, exts()...)
	return append(l, branches()...)
}

func leaves() []api.Item {
	var l []api.Item
	for count := range most + 1 {
		l = append(l, leaf(allNibbles[most-count:], ""), leaf(allNibbles[most-count:], "value"))
	}
	for count := 1; count <= most; count++ {
		l = append(l, leaf(strings.Repeat("\x00", count), "v"), leaf(strings.Repeat("\x0f", count), "v"))
	}
	for size := range api.MaxValue + 1 {
		l = append(l, leaf("\x04\x05\x06", mixed(size, 7)))
	}
	for b := range 256 {
		l = append(l, leaf("", string([]byte{byte(b)})), leaf("\x09", string([]byte{byte(b)})))
	}
	return append(l, leaf("", strings.Repeat("\x00", api.MaxValue)), leaf("", strings.Repeat("\xff", api.MaxValue)), leaf("\x01\x02", "é"))
}

func exts() []api.Item {
	var l []api.Item
	for count := 1; count <= most; count++ {
		l = append(l, ext(allNibbles[most-count:], mixed(api.HashSize, uint32(count))))
	}
	for half := range 16 {
		l = append(l, ext(string([]byte{byte(half)}), strings.Repeat("h", api.HashSize)))
	}
	return append(l, ext("\x01", strings.Repeat("\x00", api.HashSize)), ext("\x01", strings.Repeat("\xff", api.HashSize)), ext("\x01\x00", strings.Repeat("\x00", api.HashSize)))
}

func branches() []api.Item {
	l := []api.Item{bare(0xffff), valued(0xffff, ""), valued(0xffff, "v"), valued(0xffff, strings.Repeat("\xff", api.MaxValue))}
	for one := range 16 {
		l = append(l, valued(1<<one, ""), valued(1<<one, "one"))
		for other := range one {
			mask := 1<<one | 1<<other
			l = append(l, bare(mask), valued(mask, ""), valued(mask, "\x00"))
		}
	}
	for size := range api.MaxValue + 1 {
		l = append(l, valued(0x0421, mixed(size, 3)))
	}
	l = append(l, api.Item{Kind: api.Branch, Mask: 3, Hashes: []string{strings.Repeat("\x00", api.HashSize), strings.Repeat("\x00", api.HashSize)}})
	return append(l, api.Item{Kind: api.Branch, Mask: 3, Hashes: []string{strings.Repeat("\xff", api.HashSize), strings.Repeat("\x00", api.HashSize)}})
}

func same(a, b api.Item) bool {
	if len(a.Hashes) == 0 && len(b.Hashes) == 0 {
		a.Hashes, b.Hashes = nil, nil
	}
	return reflect.DeepEqual(a, b)
}

// checkItem holds all four calls to an Item that may be, and to its text.
func checkItem(t *testing.T, i api.Item, text string) {
	t.Helper()
	if !node.Good(i) {
		t.Errorf("Good(%#v) = false", i)
	}
	if got, ok := node.Encode(i); got != text || !ok {
		t.Errorf("Encode(%#v) = %x, %v, want %x, true", i, got, ok, text)
	}
	if got, ok := node.Decode(text); !same(got, i) || !ok {
		t.Errorf("Decode(%x) = %#v, %v, want %#v, true", text, got, ok, i)
	}
	want := sha256.Sum256([]byte(text))
	if got, ok := node.Hash(i); got != string(want[:]) || !ok {
		t.Errorf("Hash(%#v) = %x, %v, want %x, true", i, got, ok, want)
	}
}

// checkRefused holds an Item that may not be to what is told of it.
func checkRefused(t *testing.T, name string, i api.Item) {
	t.Helper()
	if node.Good(i) {
		t.Errorf("%s: Good(%#v) = true", name, i)
	}
	if got, ok := node.Encode(i); got != "" || ok {
		t.Errorf("%s: Encode(%#v) = %x, %v, want nothing and false", name, i, got, ok)
	}
	if got, ok := node.Hash(i); got != "" || ok {
		t.Errorf("%s: Hash(%#v) = %x, %v, want nothing and false", name, i, got, ok)
	}
}

func checkNoItem(t *testing.T, name, s string) {
	t.Helper()
	if got, ok := node.Decode(s); !same(got, api.Item{}) || ok {
		t.Errorf("%s: Decode(%x) = %#v, %v, want nothing and false", name, s, got, ok)
	}
}

// P9.1, the chapter's example: a Leaf without a Path, of an empty Value: 01 00 00.
func TestExample(t *testing.T) {
	checkItem(t, api.Item{Kind: api.Leaf, Has: true}, "\x01\x00\x00")
}

// P9.1: where each byte stands, written out.
func TestByteByByte(t *testing.T) {
	a, b := strings.Repeat("a", 32), strings.Repeat("b", 32)
	for _, x := range []struct {
		i    api.Item
		want string
	}{
		{leaf("", "x"), "\x01\x00\x01x"},
		{leaf("\x0a", ""), "\x01\x01\xa0\x00"},
		{leaf("\x0a\x0b", "\x00"), "\x01\x02\xab\x01\x00"},
		{leaf("\x01\x02\x03", "val"), "\x01\x03\x12\x30\x03val"},
		{leaf(allNibbles, "0123456789abcdef"), "\x01\x10\x01\x23\x45\x67\x89\xab\xcd\xef\x100123456789abcdef"},
		{ext("\x0f", a), "\x02\x01\xf0" + a},
		{ext("\x00", a), "\x02\x01\x00" + a},
		{ext("\x01\x02", a), "\x02\x02\x12" + a},
		{ext(allNibbles, a), "\x02\x10\x01\x23\x45\x67\x89\xab\xcd\xef" + a},
		{api.Item{Kind: api.Branch, Mask: 0x8001, Hashes: []string{a, b}}, "\x03\x80\x01\x00" + a + b},
		{api.Item{Kind: api.Branch, Mask: 0x0102, Hashes: []string{b, a}}, "\x03\x01\x02\x00" + b + a},
		{api.Item{Kind: api.Branch, Mask: 0x0001, Has: true, Hashes: []string{a}}, "\x03\x00\x01\x01\x00" + a},
		{api.Item{Kind: api.Branch, Mask: 0x8000, Has: true, Value: "val", Hashes: []string{b}}, "\x03\x80\x00\x01\x03val" + b},
		{api.Item{Kind: api.Branch, Mask: 0x0014, Has: true, Value: "0123456789abcdef", Hashes: []string{a, a}}, "\x03\x00\x14\x01\x100123456789abcdef" + a + a},
	} {
		checkItem(t, x.i, x.want)
	}
}

// P9.1, Hash: a digest that is known, so that Hash is not held against the library's alone.
func TestKnownHash(t *testing.T) {
	h, ok := node.Hash(leaf("", ""))
	if want := "fb50dc0717ff266cf9baf82b1ce7a1c2ef6d9247859680b11a19fb7077f5f222"; hex.EncodeToString([]byte(h)) != want || !ok {
		t.Errorf("Hash = %x, %v, want %s, true", h, ok, want)
	}
}

// P9.1: ordinary Items and the edges of each kind, there and back.
func TestThereAndBack(t *testing.T) {
	for _, i := range items() {
		checkItem(t, i, laid(i))
	}
}

// P9.1: each mask that may be, without a value and with one.
func TestEachMask(t *testing.T) {
	for mask := range 1 << 16 {
		if bitsOf(mask) >= 2 {
			checkItem(t, bare(mask), laid(bare(mask)))
		} else {
			checkRefused(t, "fewer than two children", bare(mask))
			checkNoItem(t, "fewer than two children", laid(bare(mask)))
		}
		if bitsOf(mask) >= 1 {
			checkItem(t, valued(mask, "v"), laid(valued(mask, "v")))
		}
		if t.Failed() {
			return
		}
	}
}

// outsides has masks that no Item of any kind has: beside the ends, of the same lowest bits as one that may be, and by the ends of int.
func outsides() []int {
	return []int{-1, -2, -3, -0x8000, -0x10000, -0xffff, 0x10000, 0x10001, 0x10003, 0x1ffff, 0x20003, 1<<31 | 3, 1<<32 | 3, 1<<62 | 3, math.MaxInt, math.MaxInt - 1, math.MinInt, math.MinInt + 3}
}

// P9.1: Kinds that are none of the three, all else as one of them has it.
func TestOtherKinds(t *testing.T) {
	for _, kind := range []int{0, -1, -2, -3, 4, 5, 127, 128, 255, 256, 257, 258, 259, 1<<32 + 1, 1<<32 + 2, 1<<32 + 3, math.MinInt, math.MinInt + 1, math.MaxInt} {
		checkRefused(t, "nothing but a kind", api.Item{Kind: kind})
		for _, i := range []api.Item{leaf("\x01", "v"), ext("\x01", mixed(api.HashSize, 1)), bare(3), valued(3, "v"), valued(1, "")} {
			i.Kind = kind
			checkRefused(t, "another kind", i)
		}
	}
}

// P9.1: Leaves that may not be.
func TestRefusedLeaves(t *testing.T) {
	for _, x := range []struct {
		name string
		i    api.Item
	}{
		{"without Has", api.Item{Kind: api.Leaf}},
		{"without Has, with a Path", api.Item{Kind: api.Leaf, Path: "\x01"}},
		{"without Has, with a Value", api.Item{Kind: api.Leaf, Value: "v"}},
		{"as an Ext has it", api.Item{Kind: api.Leaf, Path: "\x01", Mask: 1, Hashes: hashes(1, 1)}},
		{"with a Mask and a hash", api.Item{Kind: api.Leaf, Has: true, Mask: 1, Hashes: hashes(1, 1)}},
		{"with a Mask alone", api.Item{Kind: api.Leaf, Has: true, Mask: 1}},
		{"with a Mask of all", api.Item{Kind: api.Leaf, Has: true, Mask: 0xffff}},
		{"with a hash", api.Item{Kind: api.Leaf, Has: true, Hashes: hashes(1, 1)}},
		{"with two hashes", api.Item{Kind: api.Leaf, Has: true, Hashes: hashes(2, 1)}},
		{"with an empty hash", api.Item{Kind: api.Leaf, Has: true, Hashes: []string{""}}},
		{"a nibble too many", leaf(allNibbles+"\x00", "v")},
		{"256 nibbles", leaf(strings.Repeat("\x00", 256), "v")},
		{"257 nibbles", leaf(strings.Repeat("\x01", 257), "v")},
		{"a Value too long", leaf("", strings.Repeat("v", api.MaxValue+1))},
		{"a Value of 256 bytes", leaf("", strings.Repeat("v", 256))},
		{"a Value of 257 bytes", leaf("\x01", strings.Repeat("v", 257))},
		{"a Value of many bytes", leaf("\x01", strings.Repeat("v", 1<<20))},
	} {
		checkRefused(t, x.name, x.i)
	}
	for _, mask := range outsides() {
		checkRefused(t, "with a Mask", api.Item{Kind: api.Leaf, Has: true, Mask: mask})
	}
}

// P9.1: Exts that may not be.
func TestRefusedExts(t *testing.T) {
	h := hashes(3, 1)
	for _, x := range []struct {
		name string
		i    api.Item
	}{
		{"without a Path", api.Item{Kind: api.Ext, Mask: 1, Hashes: h[:1]}},
		{"a nibble too many", ext(allNibbles+"\x00", h[0])},
		{"257 nibbles", ext(strings.Repeat("\x01", 257), h[0])},
		{"without a Mask", api.Item{Kind: api.Ext, Path: "\x01", Hashes: h[:1]}},
		{"without a Mask and a hash", api.Item{Kind: api.Ext, Path: "\x01"}},
		{"with two children", api.Item{Kind: api.Ext, Path: "\x01", Mask: 3, Hashes: h[:2]}},
		{"with no hash", api.Item{Kind: api.Ext, Path: "\x01", Mask: 1}},
		{"with two hashes", api.Item{Kind: api.Ext, Path: "\x01", Mask: 1, Hashes: h[:2]}},
		{"with three hashes", api.Item{Kind: api.Ext, Path: "\x01", Mask: 1, Hashes: h}},
		{"with Has", api.Item{Kind: api.Ext, Path: "\x01", Has: true, Mask: 1, Hashes: h[:1]}},
		{"with a Value", api.Item{Kind: api.Ext, Path: "\x01", Value: "v", Mask: 1, Hashes: h[:1]}},
		{"with Has and a Value", api.Item{Kind: api.Ext, Path: "\x01", Has: true, Value: "v", Mask: 1, Hashes: h[:1]}},
	} {
		checkRefused(t, x.name, x.i)
	}
	for _, mask := range append(outsides(), 2, 4, 0x8000, 0x0100, 0xffff, 257, 1<<16+1, 1<<32+1) {
		checkRefused(t, "with another Mask", api.Item{Kind: api.Ext, Path: "\x01", Mask: mask, Hashes: h[:1]})
	}
}

// P9.1: Branches that may not be.
func TestRefusedBranches(t *testing.T) {
	h := hashes(17, 1)
	for _, x := range []struct {
		name string
		i    api.Item
	}{
		{"nothing but a kind", api.Item{Kind: api.Branch}},
		{"a value alone", valued(0, "")},
		{"a value of some bytes alone", valued(0, "value")},
		{"a Path", api.Item{Kind: api.Branch, Path: "\x01", Mask: 3, Hashes: h[:2]}},
		{"a Path of noughts", api.Item{Kind: api.Branch, Path: "\x00", Mask: 3, Hashes: h[:2]}},
		{"a Path and a value", api.Item{Kind: api.Branch, Path: "\x01", Has: true, Value: "v", Mask: 1, Hashes: h[:1]}},
		{"no hash", api.Item{Kind: api.Branch, Mask: 3}},
		{"a hash too few", api.Item{Kind: api.Branch, Mask: 3, Hashes: h[:1]}},
		{"a hash too many", api.Item{Kind: api.Branch, Mask: 3, Hashes: h[:3]}},
		{"a hash too many for one child", api.Item{Kind: api.Branch, Has: true, Mask: 8, Hashes: h[:2]}},
		{"hashes without a Mask", api.Item{Kind: api.Branch, Hashes: h[:2]}},
		{"hashes and a value without a Mask", api.Item{Kind: api.Branch, Has: true, Hashes: h[:2]}},
		{"fifteen hashes of sixteen", api.Item{Kind: api.Branch, Mask: 0xffff, Hashes: h[:15]}},
		{"seventeen hashes", api.Item{Kind: api.Branch, Mask: 0xffff, Hashes: h}},
		{"a Value without Has", api.Item{Kind: api.Branch, Value: "v", Mask: 3, Hashes: h[:2]}},
		{"a Value too long without Has", api.Item{Kind: api.Branch, Value: strings.Repeat("v", 17), Mask: 3, Hashes: h[:2]}},
		{"a Value too long", valued(3, strings.Repeat("v", api.MaxValue+1))},
		{"a Value of 256 bytes", valued(3, strings.Repeat("v", 256))},
		{"a Value of 257 bytes", valued(3, strings.Repeat("v", 257))},
		{"one child, and a Value without Has", api.Item{Kind: api.Branch, Value: "v", Mask: 1, Hashes: h[:1]}},
	} {
		checkRefused(t, x.name, x.i)
	}
	for _, mask := range outsides() {
		for count := range 18 {
			checkRefused(t, "a Mask outside", api.Item{Kind: api.Branch, Mask: mask, Hashes: hashes(count, 1)})
			checkRefused(t, "a Mask outside, and a value", api.Item{Kind: api.Branch, Has: true, Value: "v", Mask: mask, Hashes: hashes(count, 1)})
		}
	}
	many := api.Item{Kind: api.Branch, Mask: 0xffff}
	for len(many.Hashes) < 1<<16 {
		many.Hashes = append(many.Hashes, h[0])
	}
	checkRefused(t, "very many hashes", many)
}

// P9.1: for each number of hashes beside each number of bits, just one that is as many may be.
func TestHashesBesideBits(t *testing.T) {
	for bits := range 17 {
		for count := range 19 {
			i := api.Item{Kind: api.Branch, Has: true, Value: "v", Mask: 1<<bits - 1, Hashes: hashes(count, 5)}
			if bits == count && bits > 0 {
				checkItem(t, i, laid(i))
			} else {
				checkRefused(t, "hashes beside bits", i)
			}
		}
	}
}

// P9.1: a byte above 15 in a Path, wherever it stands.
func TestRefusedNibbles(t *testing.T) {
	for b := 16; b < 256; b++ {
		for _, path := range []string{"\x01", "\x01\x02", "\x01\x02\x03", allNibbles} {
			for at := range len(path) {
				wrong := path[:at] + string([]byte{byte(b)}) + path[at+1:]
				checkRefused(t, "a byte above 15", leaf(wrong, "v"))
				checkRefused(t, "a byte above 15", ext(wrong, mixed(api.HashSize, 1)))
			}
		}
	}
}

// P9.1: a hash of another length, wherever it stands.
func TestRefusedHashes(t *testing.T) {
	for _, size := range []int{0, 1, 31, 33, 64, 256 + 32, 1 << 16} {
		wrong := mixed(size, 9)
		checkRefused(t, "a hash of another length", ext("\x01", wrong))
		for _, i := range []api.Item{valued(4, ""), bare(3), valued(0x0111, "v"), bare(0xffff), valued(0xffff, "v")} {
			for at := range i.Hashes {
				h := i.Hashes[at]
				i.Hashes[at] = wrong
				checkRefused(t, "a hash of another length", i)
				i.Hashes[at] = h
			}
		}
	}
	// As many bytes in all as two hashes have.
	checkRefused(t, "a short and a long one", api.Item{Kind: api.Branch, Mask: 3, Hashes: []string{mixed(31, 1), mixed(33, 2)}})
}
