package sum_test

import (
	"hash/crc32"
	"math/bits"
	"strings"
	"testing"

	"umbel/api"
	"umbel/sum"
)

// longestRow is how many bits in a row may be turned.
const longestRow = 32

// everyByte has each byte once, rising.
func everyByte() string {
	var b [256]byte
	for i := range b {
		b[i] = byte(i)
	}
	return string(b[:])
}

// mixed is a text of some size whose bytes follow no plain rule.
func mixed(size int) string {
	b := make([]byte, size)
	v := uint32(size) + 1
	for i := range b {
		v = v*1664525 + 1013904223
		b[i] = byte(v >> 24)
	}
	return string(b)
}

// texts has ordinary texts and their edges, up to a page and more.
func texts() []string {
	l := []string{"", "a", "key", "123456789", "é", everyByte(), strings.Repeat(everyByte(), 10)}
	for _, size := range []int{1, 2, 3, 4, 5, 31, 32, 33, api.Size - 4, api.Size, api.Size + 1, 1000} {
		l = append(l, strings.Repeat("\x00", size), strings.Repeat("\xff", size), mixed(size))
	}
	return l
}

// numbers has the least and the greatest, each bit alone, and some whose four bytes all differ.
func numbers() []uint32 {
	l := []uint32{0, 0xffffffff, 0x12345678, 0x87654321, 0x00010203, 0x03020100, 0xfffefdfc, 0x80ff7f01, 0xe3069283}
	for i := range 32 {
		l = append(l, 1<<i, ^uint32(1<<i))
	}
	return l
}

// divided is the sum worked out as the chapter says it, bit by bit, unreflected: each byte's bits from the lowest up, into a rest that is turned round at the end.
func divided(s string) uint32 {
	polynomial := bits.Reverse32(0x82f63b78)
	rest := ^uint32(0)
	for i := range len(s) {
		for bit := range 8 {
			out := rest >> 31
			rest <<= 1
			if out != uint32(s[i]>>bit&1) {
				rest ^= polynomial
			}
		}
	}
	return ^bits.Reverse32(rest)
}

// lowestFirst is the mask of a bit of a byte, counted as the sum goes through them; highestFirst as a byte is written.
func lowestFirst(bit int) byte  { return 1 << bit }
func highestFirst(bit int) byte { return 0x80 >> bit }

// turned is s with those bits turned, from the one at place from on, of which row has a 1; bits are counted in the order that mask tells.
func turned(s string, from int, row uint32, mask func(int) byte) string {
	b := []byte(s)
	for i := range 32 {
		if row>>i&1 == 1 {
			b[(from+i)/8] ^= mask((from + i) % 8)
		}
	}
	return string(b)
}

// ones has so many bits, all ones.
func ones(count int) uint32 {
	return ^uint32(0) >> (32 - count)
}

// checkRows turns each row of 1 to 32 bits of s, wherever it begins.
func checkRows(t *testing.T, s string, mask func(int) byte) {
	t.Helper()
	was, size := sum.Of(s), 8*len(s)
	for from := range size {
		for count := 1; count <= min(longestRow, size-from); count++ {
			if sum.Of(turned(s, from, ones(count), mask)) == was {
				t.Fatalf("%d bytes, %d bits turned from bit %d on: the sum is still %08x", len(s), count, from, was)
			}
		}
	}
}

func checkOf(t *testing.T, s string, want uint32) {
	t.Helper()
	if got := sum.Of(s); got != want {
		t.Errorf("Of(%x) = %08x, want %08x", s, got, want)
	}
}

// P3.1, Of: the chapter's example, the edges, and sums that are known of this polynomial.
func TestOf(t *testing.T) {
	for _, x := range []struct {
		s    string
		want uint32
	}{
		{"123456789", 0xe3069283},
		{"", 0},
		{"a", 0xc1d04330},
		{"abc", 0x364b3fb7},
		{"\x00", 0x527d5351},
		{"\xff", 0xff000000},
		{"\x00\x00\x00\x00", 0x48674bc7},
		{"\xff\xff\xff\xff", 0xffffffff},
		{strings.Repeat("\x00", 32), 0x8a9136aa},
		{strings.Repeat("\xff", 32), 0x62a8ab43},
		{everyByte()[:32], 0x46dd794e},
		{"The quick brown fox jumps over the lazy dog", 0x22620404},
	} {
		checkOf(t, x.s, x.want)
	}
}

// P3.1, Of: bit by bit, as the chapter says it, and by the library's own sum of that polynomial.
func TestOfByOtherMeans(t *testing.T) {
	table := crc32.MakeTable(crc32.Castagnoli)
	for _, s := range texts() {
		checkOf(t, s, divided(s))
		checkOf(t, s, crc32.Checksum([]byte(s), table))
	}
}

// P3.1, Of: all texts of one byte and of two, so that each step is taken.
func TestOfAllShortTexts(t *testing.T) {
	for first := range 256 {
		s := string([]byte{byte(first)})
		checkOf(t, s, divided(s))
		for second := range 256 {
			two := s + string([]byte{byte(second)})
			checkOf(t, two, divided(two))
		}
	}
}

// P3.1, Add: a text in two pieces, cut at each place, the beginning and the end among them.
func TestAddInTwoPieces(t *testing.T) {
	for _, s := range texts() {
		want := divided(s)
		for at := range len(s) + 1 {
			if got := sum.Add(sum.Of(s[:at]), s[at:]); got != want {
				t.Fatalf("Add of the last %d bytes of %d = %08x, want %08x", len(s)-at, len(s), got, want)
			}
		}
	}
}

// P3.1, Add: a text in many pieces of one size, the last one maybe shorter, with empty ones between.
func TestAddInManyPieces(t *testing.T) {
	for _, s := range texts() {
		for _, size := range []int{1, 2, 3, 4, 7, 64, 100} {
			c := sum.Of("")
			for at := 0; at < len(s); at += size {
				c = sum.Add(sum.Add(c, ""), s[at:min(at+size, len(s))])
			}
			if want := divided(s); c != want {
				t.Fatalf("%d bytes by pieces of %d: %08x, want %08x", len(s), size, c, want)
			}
		}
	}
}

// P3.1, Add: of an empty text, and to a sum of any bits: each is some text's.
func TestAddToAnySum(t *testing.T) {
	table := crc32.MakeTable(crc32.Castagnoli)
	for _, c := range numbers() {
		if got := sum.Add(c, ""); got != c {
			t.Errorf("Add(%08x, nothing) = %08x", c, got)
		}
		for _, s := range texts() {
			if got, want := sum.Add(c, s), crc32.Update(c, table, []byte(s)); got != want {
				t.Fatalf("Add(%08x, %x) = %08x, want %08x", c, s, got, want)
			}
		}
	}
}

// P3.1, Put and Get: the highest byte first.
func TestPutAndGet(t *testing.T) {
	for _, x := range []struct {
		v uint32
		s string
	}{
		{0, "\x00\x00\x00\x00"},
		{1, "\x00\x00\x00\x01"},
		{0xff, "\x00\x00\x00\xff"},
		{0x100, "\x00\x00\x01\x00"},
		{0x10000, "\x00\x01\x00\x00"},
		{0x1000000, "\x01\x00\x00\x00"},
		{0x7fffffff, "\x7f\xff\xff\xff"},
		{0x80000000, "\x80\x00\x00\x00"},
		{0x12345678, "\x12\x34\x56\x78"},
		{0xfedcba98, "\xfe\xdc\xba\x98"},
		{0xe3069283, "\xe3\x06\x92\x83"},
		{0xffffffff, "\xff\xff\xff\xff"},
	} {
		if s := sum.Put(x.v); s != x.s {
			t.Errorf("Put(%08x) = %x, want %x", x.v, s, x.s)
		}
		if v, ok := sum.Get(x.s); v != x.v || !ok {
			t.Errorf("Get(%x) = %08x, %v, want %08x, true", x.s, v, ok, x.v)
		}
	}
}

// P3.1, Put and Get: Get of Put is the number, whatever follows.
func TestGetOfPutIsTheNumber(t *testing.T) {
	for _, v := range numbers() {
		s := sum.Put(v)
		if len(s) != 4 {
			t.Fatalf("Put(%08x) = %x", v, s)
		}
		for _, more := range []string{"", "\x00", "\xff", "more", s, everyByte()} {
			if got, ok := sum.Get(s + more); got != v || !ok {
				t.Fatalf("Get(%x) = %08x, %v, want %08x, true", s+more, got, ok, v)
			}
		}
	}
}

// P3.1, Get: texts of none, one, two and three bytes.
func TestGetOfTextsTooShort(t *testing.T) {
	for _, v := range numbers() {
		for size := range 4 {
			s := sum.Put(v)[:size]
			if got, ok := sum.Get(s); got != 0 || ok {
				t.Errorf("Get(%x) = %08x, %v, want 0, false", s, got, ok)
			}
		}
	}
	if got, ok := sum.Get(""); got != 0 || ok {
		t.Errorf("Get of nothing = %08x, %v, want 0, false", got, ok)
	}
}

// P3.2: each row of bits, from one to 32, at each place, from the first bit to the last, across the borders of bytes, by both ways of counting a byte's bits.
func TestRowsTurned(t *testing.T) {
	for _, s := range []string{"a", "ab", "abc", "abcd", "abcde", "123456789", strings.Repeat("\x00", 12), strings.Repeat("\xff", 12), mixed(40), mixed(api.Size)} {
		checkRows(t, s, lowestFirst)
		checkRows(t, s, highestFirst)
	}
}

// P3.2: of the bits of a row only some turned, the first and the last among them.
func TestRowsTurnedInPart(t *testing.T) {
	s := mixed(16)
	was := sum.Of(s)
	for from := range 8*len(s) - longestRow + 1 {
		for _, inner := range append(numbers(), 0x55555555, 0xaaaaaaaa, 0x82f63b78, 0x05ec76f1, 0x1edc6f41) {
			for count := 1; count <= longestRow; count++ {
				row := inner&ones(count) | 1 | 1<<(count-1)
				if sum.Of(turned(s, from, row, lowestFirst)) == was {
					t.Fatalf("bits %08x turned from bit %d on: the sum is still %08x", row, from, was)
				}
			}
		}
	}
}

// P3.2: any bits of a row of 32. What turning a bit does to the sum hangs on no other bit, so it is enough that no choice of the row's bits cancels out.
func TestAnyBitsOfARowTurned(t *testing.T) {
	s := mixed(16)
	was := sum.Of(s)
	for from := range 8*len(s) - longestRow + 1 {
		var apart [32]uint32 // by its highest bit: what turning some of the row's bits does
		for i := range longestRow {
			change := sum.Of(turned(s, from, 1<<i, lowestFirst)) ^ was
			for change != 0 && apart[bits.Len32(change)-1] != 0 {
				change ^= apart[bits.Len32(change)-1]
			}
			if change == 0 {
				t.Fatalf("some bits of the row from bit %d on, up to the one %d further, leave the sum as it was", from, i)
			}
			apart[bits.Len32(change)-1] = change
		}
	}
}
