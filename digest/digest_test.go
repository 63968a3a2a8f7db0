package digest_test

import (
	"crypto/sha256"
	"encoding/binary"
	"encoding/hex"
	"math"
	"math/big"
	"strings"
	"testing"

	"umbel/api"
	"umbel/digest"
)

// everyByte has each byte once, rising.
func everyByte() string {
	var b [256]byte
	for i := range b {
		b[i] = byte(i)
	}
	return string(b[:])
}

// mixed is a text of some size whose bytes follow no plain rule.
func mixed(size int) string {
	b := make([]byte, size)
	v := uint32(size) + 1
	for i := range b {
		v = v*1664525 + 1013904223
		b[i] = byte(v >> 24)
	}
	return string(b)
}

// sizes has all up to some blocks, and some far beyond.
func sizes() []int {
	l := []int{}
	for size := range 331 {
		l = append(l, size)
	}
	return append(l, api.Size-1, api.Size, api.Size+1, 1<<13-9, 1<<13-8, 1<<13, 100003)
}

// texts has ordinary texts and, of each size, noughts, all ones and mixed bytes.
func texts() []string {
	l := []string{"a", "abc", "key", "é", everyByte(), strings.Repeat(everyByte(), 10)}
	for _, size := range sizes() {
		l = append(l, strings.Repeat("\x00", size), strings.Repeat("\xff", size), mixed(size))
	}
	return l
}

// primes has the first so many.
func primes(count int) []int64 {
	l := []int64{}
	for n := int64(2); len(l) < count; n++ {
		if big.NewInt(n).ProbablyPrime(0) {
			l = append(l, n)
		}
	}
	return l
}

// fraction tells the first 32 bits behind the point of the root of n of that degree: the greatest x of which that power is at most n, both scaled up by bits.
func fraction(n int64, degree uint) uint32 {
	scaled := new(big.Int).Lsh(big.NewInt(n), 32*degree)
	x := new(big.Int)
	for bit := 40; bit >= 0; bit-- {
		y := new(big.Int).SetBit(x, bit, 1)
		if new(big.Int).Exp(y, big.NewInt(int64(degree)), nil).Cmp(scaled) <= 0 {
			x = y
		}
	}
	return uint32(x.Uint64())
}

// begin has the first eight words, worked out.
func begin() [8]uint32 {
	var h [8]uint32
	for i, p := range primes(8) {
		h[i] = fraction(p, 2)
	}
	return h
}

// cubeWords has the rounds' words, worked out.
func cubeWords() [64]uint32 {
	var k [64]uint32
	for i, p := range primes(64) {
		k[i] = fraction(p, 3)
	}
	return k
}

func right(x uint32, n uint) uint32 { return x>>n | x<<(32-n) }

// pick tells, bit by bit, that of y where x has a 1, and that of z elsewhere.
func pick(x, y, z uint32) uint32 {
	var out uint32
	for bit := range 32 {
		from := z
		if x>>bit&1 == 1 {
			from = y
		}
		out |= from >> bit & 1 << bit
	}
	return out
}

// most tells, bit by bit, what two of the three have at least.
func most(x, y, z uint32) uint32 {
	var out uint32
	for bit := range 32 {
		out |= (x>>bit&1 + y>>bit&1 + z>>bit&1) / 2 << bit
	}
	return out
}

// stepped is one step as FIPS 180-4 writes it, 6.2.2, by words that are worked out.
func stepped(k [64]uint32, h [8]uint32, block [64]byte) [8]uint32 {
	var w [64]uint32
	for t := range 64 {
		if t < 16 {
			w[t] = binary.BigEndian.Uint32(block[4*t:])
			continue
		}
		s0 := right(w[t-15], 7) ^ right(w[t-15], 18) ^ w[t-15]>>3
		s1 := right(w[t-2], 17) ^ right(w[t-2], 19) ^ w[t-2]>>10
		w[t] = s1 + w[t-7] + s0 + w[t-16]
	}
	a, b, c, d, e, f, g, hh := h[0], h[1], h[2], h[3], h[4], h[5], h[6], h[7]
	for t := range 64 {
		t1 := hh + (right(e, 6) ^ right(e, 11) ^ right(e, 25)) + pick(e, f, g) + k[t] + w[t]
		t2 := (right(a, 2) ^ right(a, 13) ^ right(a, 22)) + most(a, b, c)
		hh, g, f, e, d, c, b, a = g, f, e, d+t1, c, b, a, t1+t2
	}
	return [8]uint32{a + h[0], b + h[1], c + h[2], d + h[3], e + h[4], f + h[5], g + h[6], hh + h[7]}
}

// byBlocks goes on from h by each block of s with the package's own step, and tells the words as bytes.
func byBlocks(t *testing.T, h [8]uint32, s string) string {
	t.Helper()
	if len(s)%64 != 0 {
		t.Fatalf("%d bytes are no whole blocks", len(s))
	}
	for ; s != ""; s = s[64:] {
		h = digest.Block(h, [64]byte([]byte(s[:64])))
	}
	out := make([]byte, 32)
	for i, v := range h {
		binary.BigEndian.PutUint32(out[4*i:], v)
	}
	return string(out)
}

// wordLists has words of all zeros, of all ones, each bit alone, and others.
func wordLists() [][8]uint32 {
	ones := [8]uint32{}
	for i := range ones {
		ones[i] = math.MaxUint32
	}
	l := [][8]uint32{{}, ones, {1, 2, 3, 4, 5, 6, 7, 8}, begin()}
	for bit := range 256 {
		one := [8]uint32{}
		one[bit/32] = 1 << (bit % 32)
		l = append(l, one)
	}
	for i := range 20 {
		h := [8]uint32{}
		for j := range h {
			h[j] = binary.BigEndian.Uint32([]byte(mixed(1000 + i)[4*j:]))
		}
		l = append(l, h)
	}
	return l
}

// blocks has bytes of all zeros, of all ones, rising, mixed, and each bit alone.
func blocks() [][64]byte {
	l := [][64]byte{{}, [64]byte([]byte(strings.Repeat("\xff", 64))), [64]byte([]byte(everyByte()))}
	for i := range 20 {
		l = append(l, [64]byte([]byte(mixed(64+i))))
	}
	for bit := range 512 {
		one := [64]byte{}
		one[bit/8] = 1 << (bit % 8)
		l = append(l, one)
	}
	return l
}

// P4.1, Of: the chapter's example, and what FIPS 180-4 and its examples tell.
func TestOfTellsKnownDigests(t *testing.T) {
	for _, c := range []struct{ s, want string }{
		{"", "e3b0c44298fc1c149afbf4c8996fb92427ae41e4649b934ca495991b7852b855"},
		{"abc", "ba7816bf8f01cfea414140de5dae2223b00361a396177a9cb410ff61f20015ad"},
		{"abcdbcdecdefdefgefghfghighijhijkijkljklmklmnlmnomnopnopq", "248d6a61d20638b8e5c026930c3e6039a33ce45964ff2167f6ecedd419db06c1"},
		{"abcdefghbcdefghicdefghijdefghijkefghijklfghijklmghijklmnhijklmnoijklmnopjklmnopqklmnopqrlmnopqrsmnopqrstnopqrstu", "cf5b16a778af8380036ce59e7b0492370b249b11e8f07a51afac45037afee9d1"},
		{strings.Repeat("a", 1000000), "cdc76e5c9914fb9281a1c7e284d73e67f1809a48a497200e046d39ccc7112cd0"},
	} {
		if got := hex.EncodeToString([]byte(digest.Of(c.s))); got != c.want {
			t.Errorf("a text of %d bytes: %s, not %s", len(c.s), got, c.want)
		}
	}
}

// P4.1, Of: 32 bytes, those that the library tells, of texts of each size around the blocks' ends and of longer ones.
func TestOfIsSHA256(t *testing.T) {
	for _, s := range texts() {
		want := sha256.Sum256([]byte(s))
		if got := digest.Of(s); got != string(want[:]) {
			t.Errorf("%d bytes, %.8q: %x, not %x", len(s), s, got, want)
		}
	}
}

// Rule 4: an answer hangs on the argument alone, not on what was asked before.
func TestOfTellsTheSameAgain(t *testing.T) {
	first := map[string]string{}
	for _, s := range texts() {
		first[s] = digest.Of(s)
	}
	for s, want := range first {
		if digest.Of(s) != want {
			t.Errorf("%d bytes: another digest when asked again", len(s))
		}
	}
}

// padded is what P4.1 says of Pad, byte by byte: as few noughts as make all a multiple of 64.
func padded(n int) string {
	p := "\x80"
	for (n%64+len(p)+8)%64 != 0 {
		p += "\x00"
	}
	length := new(big.Int).Mul(big.NewInt(int64(n)), big.NewInt(8))
	length.And(length, new(big.Int).SetUint64(math.MaxUint64))
	return p + string(length.FillBytes(make([]byte, 8)))
}

// P4.1, Pad: of 0, around a block's end and the place where the length no longer fits, and of numbers whose 8 times takes more than four bytes.
func TestPadIsWhatStandsBehind(t *testing.T) {
	l := sizes()
	for bit := range 63 {
		l = append(l, 1<<bit-1, 1<<bit, 1<<bit+1, 1<<bit+55, 1<<bit+56, 1<<bit+63)
	}
	l = append(l, math.MaxInt, math.MaxInt-7, math.MaxInt-8, math.MaxInt-9, math.MaxInt-63, math.MaxInt-64)
	for _, n := range l {
		if got, want := digest.Pad(n), padded(n); got != want {
			t.Errorf("%d: %x, not %x", n, got, want)
		}
	}
}

// P4.1, Pad: written out, with the sizes at the edges.
func TestPadAtTheEdges(t *testing.T) {
	for _, c := range []struct {
		n    int
		want string
	}{
		{0, "\x80" + strings.Repeat("\x00", 63)},
		{1, "\x80" + strings.Repeat("\x00", 61) + "\x08"},
		{55, "\x80\x00\x00\x00\x00\x00\x00\x01\xb8"},
		{56, "\x80" + strings.Repeat("\x00", 69) + "\x01\xc0"},
		{63, "\x80" + strings.Repeat("\x00", 62) + "\x01\xf8"},
		{64, "\x80" + strings.Repeat("\x00", 61) + "\x02\x00"},
		{1<<40 + 55, "\x80\x00\x00\x08\x00\x00\x00\x01\xb8"},
		{0x1020304050607080, "\x80" + strings.Repeat("\x00", 55) + "\x81\x01\x82\x02\x83\x03\x84\x00"},
	} {
		if got := digest.Pad(c.n); got != c.want {
			t.Errorf("%d: %x, not %x", c.n, got, c.want)
		}
	}
}

// P4.1, Pad, wrong inputs: below 0 as of 0.
func TestPadBelowNought(t *testing.T) {
	want := "\x80" + strings.Repeat("\x00", 63)
	for _, n := range []int{-1, -5, -8, -9, -55, -56, -63, -64, -65, -1 << 31, -1 << 40, -math.MaxInt, math.MinInt} {
		if got := digest.Pad(n); got != want {
			t.Errorf("%d: %x, not %x", n, got, want)
		}
	}
}

// P4.1, Block: each list of words with each block, against the standard's step.
func TestBlockIsOneStep(t *testing.T) {
	k := cubeWords()
	for i, h := range wordLists() {
		for j, b := range blocks() {
			if i > 3 && j > 5 && i%16 != j%16 { // a bit alone in both: not each with each
				continue
			}
			if got, want := digest.Block(h, b), stepped(k, h, b); got != want {
				t.Fatalf("%08x, %x: %08x, not %08x", h, b, got, want)
			}
		}
	}
}

// P4.1, Block: the step of the chapter's example.
func TestBlockOfTheExample(t *testing.T) {
	var b [64]byte
	copy(b[:], "abc\x80")
	b[63] = 24
	want := [8]uint32{0xba7816bf, 0x8f01cfea, 0x414140de, 0x5dae2223, 0xb00361a3, 0x96177a9c, 0xb410ff61, 0xf20015ad}
	if got := digest.Block(begin(), b); got != want {
		t.Errorf("%08x, not %08x", got, want)
	}
}

// P4.2: Of is Block by Block over the text and what Pad puts behind it, from the square roots' fractions.
func TestOfIsBlockByBlock(t *testing.T) {
	h := begin()
	for _, s := range texts() {
		if got, want := digest.Of(s), byBlocks(t, h, s+digest.Pad(len(s))); got != want {
			t.Errorf("%d bytes, %.8q: %x, not %x", len(s), s, got, want)
		}
	}
}

// P4.1, Hex: two digits a byte, small letters, of any text.
func TestHexTellsTwoDigitsAByte(t *testing.T) {
	for _, c := range []struct{ s, want string }{
		{"", ""},
		{"\x00", "00"},
		{"\xff", "ff"},
		{"\x0a\xa0", "0aa0"},
		{"\x00\xff\x1a", "00ff1a"},
		{"\x01\x23\x45\x67\x89\xab\xcd\xef", "0123456789abcdef"},
		{"abc", "616263"},
		{"é", "c3a9"},
	} {
		if got := digest.Hex(c.s); got != c.want {
			t.Errorf("%q: %q, not %q", c.s, got, c.want)
		}
	}
	for i := range 256 {
		s := string([]byte{byte(i)})
		if got, want := digest.Hex(s), hex.EncodeToString([]byte(s)); got != want {
			t.Errorf("%q: %q, not %q", s, got, want)
		}
	}
	for _, s := range texts() {
		if got, want := digest.Hex(s), hex.EncodeToString([]byte(s)); got != want {
			t.Errorf("%d bytes, %.8q: %.16q, not %.16q", len(s), s, got, want)
		}
	}
}
