package node_test

import (
	"strings"
	"testing"
	"unsafe"

	"umbel/api"
	"umbel/node"
)

// told is what Decode should tell of any text, read off as the chapter says it.
func told(s string) (api.Item, bool) {
	if s == "" {
		return api.Item{}, false
	}
	var i api.Item
	ok := false
	switch s[0] {
	case 1:
		i, ok = toldLeaf(s[1:])
	case 2:
		i, ok = toldExt(s[1:])
	case 3:
		i, ok = toldBranch(s[1:])
	}
	if !ok {
		return api.Item{}, false
	}
	return i, true
}

func toldPath(s string) (path, rest string, ok bool) {
	if s == "" || s[0] > most {
		return "", "", false
	}
	count := int(s[0])
	size := (count + 1) / 2
	if len(s) < 1+size {
		return "", "", false
	}
	var b []byte
	for _, c := range []byte(s[1 : 1+size]) {
		b = append(b, c/16, c%16)
	}
	if count%2 == 1 && b[count] != 0 {
		return "", "", false
	}
	return string(b[:count]), s[1+size:], true
}

func toldValue(s string) (value, rest string, ok bool) {
	if s == "" || s[0] > api.MaxValue || len(s) < 1+int(s[0]) {
		return "", "", false
	}
	return s[1 : 1+int(s[0])], s[1+int(s[0]):], true
}

func toldLeaf(s string) (api.Item, bool) {
	path, s, ok := toldPath(s)
	if !ok {
		return api.Item{}, false
	}
	value, s, ok := toldValue(s)
	return leaf(path, value), ok && s == ""
}

func toldExt(s string) (api.Item, bool) {
	path, s, ok := toldPath(s)
	return ext(path, s), ok && path != "" && len(s) == api.HashSize
}

func toldBranch(s string) (api.Item, bool) {
	if len(s) < 3 || s[2] > 1 {
		return api.Item{}, false
	}
	i := api.Item{Kind: api.Branch, Mask: int(s[0])*256 + int(s[1]), Has: s[2] == 1}
	s = s[3:]
	leads := bitsOf(i.Mask)
	if i.Has {
		value, rest, ok := toldValue(s)
		if !ok {
			return api.Item{}, false
		}
		i.Value, s = value, rest
		leads++
	}
	for len(s) >= api.HashSize {
		i.Hashes, s = append(i.Hashes, s[:api.HashSize]), s[api.HashSize:]
	}
	return i, s == "" && leads >= 2 && len(i.Hashes) == bitsOf(i.Mask)
}

// checkText holds Decode to what told reads off, and the Item to its text.
func checkText(t *testing.T, s string) {
	t.Helper()
	if want, ok := told(s); ok {
		checkItem(t, want, s)
	} else {
		checkNoItem(t, "no Item's", s)
	}
}

// P9.1, Decode: texts that are no Item's, each for one thing.
func TestNoItems(t *testing.T) {
	a, b := strings.Repeat("a", 32), strings.Repeat("b", 32)
	for _, x := range []struct{ name, s string }{
		{"empty", ""},
		{"kind 0", "\x00"},
		{"kind 0, as a Leaf", "\x00\x00\x00"},
		{"kind 4, as a Branch", "\x04\x00\x03\x00" + a + b},
		{"kind 255, as a Leaf", "\xff\x00\x00"},
		{"kind as a digit", "1\x00\x00"},
		{"a Leaf's kind alone", "\x01"},
		{"no value", "\x01\x00"},
		{"an odd Path, its last half not 0", "\x01\x01\x1f\x00"},
		{"a longer one", "\x01\x03\x12\x31\x00"},
		{"17 nibbles", "\x01\x11" + strings.Repeat("\x00", 9) + "\x00"},
		{"255 nibbles", "\x01\xff" + strings.Repeat("\x00", 128) + "\x00"},
		{"nibbles as bytes", "\x01\x02\x01\x02\x00"},
		{"a value of 17", "\x01\x00\x11" + strings.Repeat("v", 17)},
		{"a value of 16, said to be 17", "\x01\x00\x11" + strings.Repeat("v", 16)},
		{"a value of 17, said to be 16", "\x01\x00\x10" + strings.Repeat("v", 17)},
		{"a value of 255", "\x01\x00\xff" + strings.Repeat("v", 255)},
		{"a value that is not there", "\x01\x00\x01"},
		{"a value half there", "\x01\x00\x02v"},
		{"a Leaf with a mark for Has", "\x01\x00\x01\x01v"},
		{"a Leaf with a hash behind it", "\x01\x00\x00" + a},
		{"an Ext's kind alone", "\x02"},
		{"an Ext without a Path", "\x02\x00" + a},
		{"an Ext without a hash", "\x02\x01\x10"},
		{"an Ext with a short hash", "\x02\x01\x10" + a[1:]},
		{"an Ext with a long hash", "\x02\x01\x10" + a + "a"},
		{"an Ext with two hashes", "\x02\x01\x10" + a + b},
		{"an Ext with a mask", "\x02\x01\x10\x00\x01" + a},
		{"an Ext, its last half not 0", "\x02\x01\x11" + a},
		{"an Ext of 17 nibbles", "\x02\x11" + strings.Repeat("\x00", 9) + a},
		{"an Ext with a value", "\x02\x01\x10\x00" + a},
		{"a Branch's kind alone", "\x03"},
		{"half a mask", "\x03\x00"},
		{"a mask alone", "\x03\x00\x03"},
		{"a mask without hashes", "\x03\x00\x03\x00"},
		{"a mark of 2", "\x03\x00\x03\x02" + a + b},
		{"a mark of 2 and a value", "\x03\x00\x03\x02\x01v" + a + b},
		{"a mark of 255", "\x03\x00\x03\xff\x00" + a + b},
		{"a mark of 1 and no value", "\x03\x00\x03\x01"},
		{"a mark of 0 and a value", "\x03\x00\x03\x00\x00" + a + b},
		{"a value of 17 in a Branch", "\x03\x00\x03\x01\x11" + strings.Repeat("v", 17) + a + b},
		{"a value of 32 in a Branch", "\x03\x00\x03\x01\x20" + a + a + b},
		{"a hash too few", "\x03\x00\x03\x00" + a},
		{"a hash too many", "\x03\x00\x03\x00" + a + b + a},
		{"one child", "\x03\x00\x01\x00" + a},
		{"no child", "\x03\x00\x00\x00"},
		{"a value alone", "\x03\x00\x00\x01\x00"},
		{"a value of some bytes alone", "\x03\x00\x00\x01\x03abc"},
		{"no mask, and two hashes", "\x03\x00\x00\x00" + a + b},
		{"no mask, a value and a hash", "\x03\x00\x00\x01\x00" + a},
		{"the mask's lowest byte first", "\x03\x01\x00\x00" + a + b},
		{"a Path in a Branch", "\x03\x01\x10\x00\x03\x00" + a + b},
	} {
		if _, ok := told(x.s); ok {
			t.Fatalf("%s: the test holds it for an Item's", x.name)
		}
		checkNoItem(t, x.name, x.s)
	}
}

// P9.1, Decode: each Item's text cut short at every place, at its end and at its beginning, and with bytes more.
func TestCutShortAndLonger(t *testing.T) {
	for _, i := range items() {
		s := laid(i)
		for size := range len(s) {
			checkNoItem(t, "cut short", s[:size])
			checkText(t, s[len(s)-size:])
		}
		for b := range 256 {
			checkNoItem(t, "a byte more", s+string([]byte{byte(b)}))
		}
		checkNoItem(t, "a hash more", s+strings.Repeat("h", api.HashSize))
		checkNoItem(t, "twice", s+s)
		checkNoItem(t, "many bytes more", s+strings.Repeat("\x00", 1<<12))
		checkText(t, "\x00"+s)
		checkText(t, "\x01"+s)
		if t.Failed() {
			return
		}
	}
}

// P9.1 and P9.2: each byte of an Item's text made another one, the first ones each other one: the text is another Item's, or none's.
func TestEachByteChanged(t *testing.T) {
	for _, i := range []api.Item{leaf("", ""), leaf("\x01\x02\x03", "ab"), leaf(allNibbles, mixed(api.MaxValue, 1)), ext("\x0a", mixed(api.HashSize, 2)), ext("\x01\x02", mixed(api.HashSize, 3)), bare(0x8001), valued(0x0010, ""), valued(0x0110, "xyz"), bare(0xffff), valued(0xffff, mixed(api.MaxValue, 4))} {
		s := laid(i)
		for at := range len(s) {
			step := 1
			if at >= 24 {
				step = 51
			}
			for b := 0; b < 256; b += step {
				changed := s[:at] + string([]byte{byte(b)}) + s[at+1:]
				checkText(t, changed)
				if got, ok := node.Decode(changed); ok && same(got, i) != (changed == s) {
					t.Errorf("Decode(%x) is what %x is", changed, s)
				}
			}
			if t.Failed() {
				return
			}
		}
	}
}

// P9.1, Decode: each byte of an Item's text left out, and each doubled.
func TestEachByteLeftOutOrDoubled(t *testing.T) {
	for _, i := range items() {
		s := laid(i)
		for at := range len(s) {
			checkText(t, s[:at]+s[at+1:])
			checkText(t, s[:at+1]+s[at:])
		}
		if t.Failed() {
			return
		}
	}
}

// P9.1, Decode: all texts of up to two bytes, and of three and four that begin as an Item's might.
func TestAllShortTexts(t *testing.T) {
	checkText(t, "")
	for a := range 256 {
		checkText(t, string([]byte{byte(a)}))
		for b := range 256 {
			checkText(t, string([]byte{byte(a), byte(b)}))
			for c := range 8 {
				checkText(t, string([]byte{byte(c), byte(a), byte(b)}))
				checkText(t, string([]byte{1, byte(c), byte(a), byte(b)}))
			}
		}
		if t.Failed() {
			return
		}
	}
}

// P9.1, Decode: mixed bytes behind each kind, of each size up to that of the longest text and somewhat beyond.
func TestMixedTexts(t *testing.T) {
	for size := range 600 {
		for seed := range uint32(8) {
			s := mixed(size, seed)
			for _, head := range []string{"", "\x01", "\x01\x00", "\x01\x04", "\x02", "\x02\x02", "\x03", "\x03\x00\x03\x00", "\x03\x01\x01\x01\x04", "\x03\xff\xff\x00", "\x03\xff\xff\x01\x10"} {
				checkText(t, head+s)
			}
		}
	}
}

// P9.2: of all pairs of Items, those have one text, and one hash, that are one.
func TestOneTextJustIfOne(t *testing.T) {
	l := items()
	var texts, digests []string
	for _, i := range l {
		s, _ := node.Encode(i)
		h, _ := node.Hash(i)
		texts, digests = append(texts, s), append(digests, h)
	}
	for a := range l {
		for b := range l {
			if (texts[a] == texts[b]) != same(l[a], l[b]) || (digests[a] == digests[b]) != same(l[a], l[b]) {
				t.Errorf("%#v and %#v: texts %x and %x", l[a], l[b], texts[a], texts[b])
			}
		}
	}
}

// P9.2: Items that differ in one thing alone, which a text that is not said as the chapter says it might leave out.
func TestOneThingAlone(t *testing.T) {
	h := hashes(3, 1)
	for _, x := range []struct {
		name string
		a, b api.Item
	}{
		{"where the Path ends and the Value begins", leaf("\x00", ""), leaf("", "\x00")},
		{"a nibble 0 more", leaf("\x01", ""), leaf("\x01\x00", "")},
		{"a byte 0 more", leaf("\x01", "v"), leaf("\x01", "v\x00")},
		{"a byte 0 or none", leaf("", ""), leaf("", "\x00")},
		{"an Ext's nibble 0 more", ext("\x01", h[0]), ext("\x01\x00", h[0])},
		{"an Ext's hash", ext("\x01", h[0]), ext("\x01", h[1])},
		{"an empty value or none", valued(3, ""), bare(3)},
		{"the children's places", api.Item{Kind: api.Branch, Mask: 3, Hashes: h[:2]}, api.Item{Kind: api.Branch, Mask: 0x0300, Hashes: h[:2]}},
		{"the hashes' order", api.Item{Kind: api.Branch, Mask: 3, Hashes: []string{h[0], h[1]}}, api.Item{Kind: api.Branch, Mask: 3, Hashes: []string{h[1], h[0]}}},
		{"the last hash", api.Item{Kind: api.Branch, Mask: 7, Hashes: []string{h[0], h[1], h[2]}}, api.Item{Kind: api.Branch, Mask: 7, Hashes: []string{h[0], h[1], h[1]}}},
	} {
		one, ok := node.Encode(x.a)
		other, is := node.Encode(x.b)
		if one == other || !ok || !is {
			t.Errorf("%s: %x and %x", x.name, one, other)
		}
	}
}

// P9.2: nil and empty lists are one (rule 2).
func TestNilAndEmptyHashes(t *testing.T) {
	for _, i := range leaves() {
		i.Hashes = []string{}
		checkItem(t, i, laid(i))
		i.Hashes = make([]string, 0, 4)
		checkItem(t, i, laid(i))
	}
	checkRefused(t, "no hash", api.Item{Kind: api.Branch, Has: true, Hashes: []string{}})
}

// within tells whether the two texts share memory.
func within(a, b string) bool {
	if len(a) == 0 || len(b) == 0 {
		return false
	}
	x, y := uintptr(unsafe.Pointer(unsafe.StringData(a))), uintptr(unsafe.Pointer(unsafe.StringData(b)))
	return x < y+uintptr(len(b)) && y < x+uintptr(len(a))
}

// textsOf has all texts of an Item of two bytes and more; those of one byte may stand in memory that never changes.
func textsOf(i api.Item) []string {
	var l []string
	for _, s := range append([]string{i.Path, i.Value}, i.Hashes...) {
		if len(s) > 1 {
			l = append(l, s)
		}
	}
	return l
}

func checkApart(t *testing.T, a, b []string) {
	t.Helper()
	for _, x := range a {
		for _, y := range b {
			if within(x, y) {
				t.Errorf("%x and %x share memory", x, y)
			}
		}
	}
}

// Rules 2 and 4: an answer shares no memory with an argument or another answer, and hangs on no call ahead of it.
func TestAnswersStandByThemselves(t *testing.T) {
	for _, i := range items() {
		s, _ := node.Encode(i)
		h, _ := node.Hash(i)
		one, _ := node.Decode(s)
		node.Encode(valued(0xffff, "other"))
		node.Decode(laid(bare(0xffff)))
		again, _ := node.Encode(i)
		hash, _ := node.Hash(i)
		two, _ := node.Decode(s)
		if s != again || h != hash || !same(one, two) {
			t.Errorf("%#v: another answer a second time", i)
		}
		all := [][]string{{s}, {again}, {h}, {hash}, textsOf(i), textsOf(one), textsOf(two)}
		for a := range all {
			for b := range a {
				checkApart(t, all[a], all[b])
			}
		}
		own := textsOf(one)
		for a := range own {
			checkApart(t, own[a:a+1], own[:a])
		}
	}
}

// Rule 2: what one answer's list is made to be is not to be seen in another one.
func TestListsOfAnswersAreApart(t *testing.T) {
	i := valued(0x0f0f, "value")
	s := laid(i)
	one, _ := node.Decode(s)
	two, _ := node.Decode(s)
	whole := one.Hashes[:cap(one.Hashes)]
	for at := range whole {
		whole[at] = "spoilt"
	}
	if !same(two, i) {
		t.Errorf("Decode's answer is %#v behind a change of another one", two)
	}
	checkItem(t, i, s)
}

// Rule 2: the list that is handed in stays as it is, its spare room too, and is not kept.
func TestArgumentsStay(t *testing.T) {
	list := append(hashes(3, 1), "spare", "room")
	kept := append([]string(nil), list...)
	i := api.Item{Kind: api.Branch, Mask: 0x0070, Hashes: list[:3]}
	s, _ := node.Encode(i)
	node.Good(i)
	node.Hash(i)
	for at := range list {
		if list[at] != kept[at] {
			t.Errorf("the list has %q at %d, and had %q", list[at], at, kept[at])
		}
	}
	list[1] = mixed(api.HashSize, 77)
	checkItem(t, i, laid(i))
	if again, _ := node.Encode(i); again == s {
		t.Error("Encode tells a text that is kept")
	}
}
