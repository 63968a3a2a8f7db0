package nibble_test

import (
	"strings"
	"testing"

	"umbel/api"
	"umbel/nibble"
)

// most is as many nibbles as there may be.
const most = 16

// allNibbles has each nibble once: as many as there may be.
const allNibbles = "\x00\x01\x02\x03\x04\x05\x06\x07\x08\x09\x0a\x0b\x0c\x0d\x0e\x0f"

// everyByte has each byte once, rising.
func everyByte() string {
	var b [256]byte
	for i := range b {
		b[i] = byte(i)
	}
	return string(b[:])
}

// withAt is s with another byte at one place.
func withAt(s string, at int, b byte) string {
	return s[:at] + string([]byte{b}) + s[at+1:]
}

// samples has nibbles of each length that may be: all 0, all 15, rising, and falling ones.
func samples() []string {
	var l []string
	for count := range most + 1 {
		l = append(l, strings.Repeat("\x00", count), strings.Repeat("\x0f", count), allNibbles[:count], allNibbles[most-count:])
	}
	return l
}

// packs has by their Packs all nibbles up to a number of them, told by counting alone.
func packs(upTo int) map[string]string {
	all := map[string]string{}
	var grow func(n string, joined []byte)
	grow = func(n string, joined []byte) {
		all[string([]byte{byte(len(n))})+string(joined)] = n
		if len(n) == upTo {
			return
		}
		for half := range 16 {
			more := append([]byte(nil), joined...)
			if len(n)%2 == 0 {
				more = append(more, byte(16*half))
			} else {
				more[len(more)-1] += byte(half)
			}
			grow(n+string([]byte{byte(half)}), more)
		}
	}
	grow("", nil)
	return all
}

func checkUnpack(t *testing.T, s, n string, used int) {
	t.Helper()
	gotN, gotUsed, ok := nibble.Unpack(s)
	if gotN != n || gotUsed != used || !ok {
		t.Fatalf("Unpack(%x) = %x, %d, %v, want %x, %d, true", s, gotN, gotUsed, ok, n, used)
	}
}

func checkNoPack(t *testing.T, s string) {
	t.Helper()
	if n, used, ok := nibble.Unpack(s); n != "" || used != 0 || ok {
		t.Fatalf("Unpack(%x) = %x, %d, %v, want nothing, 0, false", s, n, used, ok)
	}
}

func checkNoKey(t *testing.T, n string) {
	t.Helper()
	if k, ok := nibble.Key(n); k != "" || ok {
		t.Fatalf("Key(%x) = %x, %v, want nothing, false", n, k, ok)
	}
}

func checkNotGood(t *testing.T, n string) {
	t.Helper()
	if nibble.Good(n) {
		t.Errorf("Good(%x) = true", n)
	}
	if s, ok := nibble.Pack(n); s != "" || ok {
		t.Errorf("Pack(%x) = %x, %v, want nothing, false", n, s, ok)
	}
}

func checkCommon(t *testing.T, a, b string, want int) {
	t.Helper()
	if got := nibble.Common(a, b); got != want {
		t.Errorf("Common(%x, %x) = %d, want %d", a, b, got, want)
	}
	if got := nibble.Common(b, a); got != want {
		t.Errorf("Common(%x, %x) = %d, want %d", b, a, got, want)
	}
}

// The tests' bound is the one that api's limit makes.
func TestMost(t *testing.T) {
	if most != 2*api.MaxKey || len(allNibbles) != most {
		t.Fatalf("most is %d, want %d", most, 2*api.MaxKey)
	}
}

// P2.1, Of and Key: ordinary texts and their edges.
func TestOfAndKey(t *testing.T) {
	for _, x := range []struct{ key, n string }{
		{"", ""},
		{"\x00", "\x00\x00"},
		{"\x0f", "\x00\x0f"},
		{"\xf0", "\x0f\x00"},
		{"\xff", "\x0f\x0f"},
		{"\x12", "\x01\x02"},
		{"key", "\x06\x0b\x06\x05\x07\x09"},
		{"\x00\xff\x00", "\x00\x00\x0f\x0f\x00\x00"},
		{"\x01\x23\x45\x67\x89\xab\xcd\xef", allNibbles},
		{"é", "\x0c\x03\x0a\x09"},
	} {
		if n := nibble.Of(x.key); n != x.n {
			t.Errorf("Of(%x) = %x, want %x", x.key, n, x.n)
		}
		if k, ok := nibble.Key(x.n); k != x.key || !ok {
			t.Errorf("Key(%x) = %x, %v, want %x, true", x.n, k, ok, x.key)
		}
	}
}

// P2.1, Of and Key: each byte has its two halves, the higher one first.
func TestOfAndKeyOfEachByte(t *testing.T) {
	for high := range 16 {
		for low := range 16 {
			key, want := string([]byte{byte(16*high + low)}), string([]byte{byte(high), byte(low)})
			if n := nibble.Of(key); n != want {
				t.Errorf("Of(%x) = %x, want %x", key, n, want)
			}
			if k, ok := nibble.Key(want); k != key || !ok {
				t.Errorf("Key(%x) = %x, %v, want %x, true", want, k, ok, key)
			}
		}
	}
}

// P2.1, Of and Key: texts longer than a key may be.
func TestOfAndKeyOfLongTexts(t *testing.T) {
	for _, key := range []string{"ninebytes", everyByte(), strings.Repeat(everyByte(), 100)} {
		n := nibble.Of(key)
		if len(n) != 2*len(key) {
			t.Fatalf("Of %d bytes: %d nibbles", len(key), len(n))
		}
		for i := range len(key) {
			if int(n[2*i])*16+int(n[2*i+1]) != int(key[i]) || n[2*i+1] > 15 {
				t.Fatalf("Of: byte %d, %02x, is %x", i, key[i], n[2*i:2*i+2])
			}
		}
		if k, ok := nibble.Key(n); k != key || !ok {
			t.Fatalf("Key of the nibbles of %d bytes: %d bytes, %v", len(key), len(k), ok)
		}
	}
}

// P2.1, Key: odd numbers of nibbles.
func TestKeyOfOddNumbers(t *testing.T) {
	n := strings.Repeat(allNibbles, 3)
	for count := 1; count < len(n); count += 2 {
		checkNoKey(t, n[:count])
	}
}

// P2.1, Key: a byte above 15, wherever it stands.
func TestKeyOfBytesAbove15(t *testing.T) {
	for b := 16; b < 256; b++ {
		for _, n := range []string{"\x00\x00", "\x0f\x0f\x0f\x0f", "\x01\x02\x03", allNibbles, strings.Repeat(allNibbles, 2)} {
			for at := range len(n) {
				checkNoKey(t, withAt(n, at, byte(b)))
			}
		}
	}
}

// P2.1, Common: texts of any bytes, alike, unlike, of which one begins the other.
func TestCommon(t *testing.T) {
	for _, x := range []struct {
		a, b string
		want int
	}{
		{"", "", 0},
		{"", "a", 0},
		{"a", "a", 1},
		{"a", "b", 0},
		{"ab", "abc", 2},
		{"abc", "abd", 2},
		{"abcd", "abxd", 2},
		{"xbcd", "abcd", 0},
		{"\x00", "\x00\x00", 1},
		{"\x0f\x00\x0f", "\x0f\x00\x0e", 2},
		{"\xff\x80\x7f", "\xff\x80\xff", 2},
		{"é", "è", 1},
	} {
		checkCommon(t, x.a, x.b, x.want)
	}
}

// P2.1, Common: of long texts, at each place where they may part.
func TestCommonAtEachPlace(t *testing.T) {
	a := everyByte() + everyByte()
	checkCommon(t, a, a, len(a))
	for at := range len(a) {
		checkCommon(t, a, a[:at], at)
		for _, bit := range []byte{0x01, 0x10, 0x80} {
			checkCommon(t, a, withAt(a, at, a[at]^bit), at)
		}
	}
}

// P2.1, Good: each number of nibbles that may be, odd and even.
func TestGood(t *testing.T) {
	for _, n := range samples() {
		if !nibble.Good(n) {
			t.Errorf("Good(%x) = false", n)
		}
	}
}

// P2.1, Good, and P2.2, Pack: too many nibbles, and what is none.
func TestNotGood(t *testing.T) {
	for _, count := range []int{most + 1, most + 2, 255, 256, 257, 256 + most, 65536, 65537} {
		checkNotGood(t, strings.Repeat("\x00", count))
		checkNotGood(t, strings.Repeat("\x0f", count))
	}
	for b := 16; b < 256; b++ {
		for _, n := range samples() {
			for at := range len(n) {
				checkNotGood(t, withAt(n, at, byte(b)))
			}
		}
	}
}

// P2.2, Pack and Unpack: ordinary nibbles and their edges.
func TestPackAndUnpack(t *testing.T) {
	for _, x := range []struct{ n, s string }{
		{"", "\x00"},
		{"\x00", "\x01\x00"},
		{"\x0f", "\x01\xf0"},
		{"\x00\x00", "\x02\x00"},
		{"\x0f\x0f", "\x02\xff"},
		{"\x01\x02", "\x02\x12"},
		{"\x01\x02\x03", "\x03\x12\x30"},
		{"\x00\x0f\x00", "\x03\x0f\x00"},
		{"\x0f\x00\x0f\x00", "\x04\xf0\xf0"},
		{allNibbles[:15], "\x0f\x01\x23\x45\x67\x89\xab\xcd\xe0"},
		{allNibbles[1:], "\x0f\x12\x34\x56\x78\x9a\xbc\xde\xf0"},
		{allNibbles, "\x10\x01\x23\x45\x67\x89\xab\xcd\xef"},
		{strings.Repeat("\x0f", most), "\x10\xff\xff\xff\xff\xff\xff\xff\xff"},
	} {
		if s, ok := nibble.Pack(x.n); s != x.s || !ok {
			t.Errorf("Pack(%x) = %x, %v, want %x, true", x.n, s, ok, x.s)
		}
		checkUnpack(t, x.s, x.n, len(x.s))
	}
}

// P2.2, Pack: all nibbles up to three.
func TestPackOfAllShortOnes(t *testing.T) {
	all := packs(3)
	if len(all) != 1+16+16*16+16*16*16 {
		t.Fatalf("%d packs", len(all))
	}
	for want, n := range all {
		if s, ok := nibble.Pack(n); s != want || !ok {
			t.Fatalf("Pack(%x) = %x, %v, want %x, true", n, s, ok, want)
		}
	}
}

// P2.2, Unpack: all texts up to three bytes that tell up to four nibbles, held against all Packs.
func TestUnpackOfAllShortTexts(t *testing.T) {
	all := packs(4)
	check := func(s string) {
		for used := range len(s) + 1 {
			if n, ok := all[s[:used]]; ok {
				checkUnpack(t, s, n, used)
				return
			}
		}
		checkNoPack(t, s)
	}
	check("")
	for count := range 5 {
		first := string([]byte{byte(count)})
		check(first)
		for b := range 256 {
			check(first + string([]byte{byte(b)}))
		}
		for b := range 65536 {
			check(first + string([]byte{byte(b >> 8), byte(b)}))
		}
	}
}

// P2.2, Unpack: texts cut short at each place, and whole ones.
func TestUnpackOfTextsTooShort(t *testing.T) {
	checkNoPack(t, "")
	for count := range most + 1 {
		whole := string([]byte{byte(count)}) + strings.Repeat("\x00", (count+1)/2)
		checkUnpack(t, whole, strings.Repeat("\x00", count), len(whole))
		for size := range len(whole) {
			checkNoPack(t, whole[:size])
		}
	}
}

// P2.2, Unpack: first bytes that tell more nibbles than there may be, few bytes behind them, and enough.
func TestUnpackOfTooMany(t *testing.T) {
	for count := most + 1; count < 256; count++ {
		for _, size := range []int{0, 1, (count + 1) / 2, 300} {
			checkNoPack(t, string([]byte{byte(count)})+strings.Repeat("\x00", size))
		}
	}
}

// P2.2, Unpack: of odd numbers the last lower half must be 0, of even ones it may be any.
func TestUnpackOfLastHalves(t *testing.T) {
	for count := 1; count <= most; count++ {
		for half := range 16 {
			n := allNibbles[:count]
			if count%2 == 0 {
				n = n[:count-1] + string([]byte{byte(half)})
			}
			joined, _ := nibble.Key((n + string([]byte{byte(half)}))[:count+count%2])
			s := string([]byte{byte(count)}) + joined
			for _, more := range []string{"", "\x00", "\xff"} {
				if count%2 == 0 || half == 0 {
					checkUnpack(t, s+more, n, len(s))
				} else {
					checkNoPack(t, s+more)
				}
			}
		}
	}
}

// P2.3: whatever follows.
func TestUnpackOfPackIsTheNibbles(t *testing.T) {
	for _, n := range samples() {
		s, ok := nibble.Pack(n)
		if !ok {
			t.Fatalf("Pack(%x) = %x, false", n, s)
		}
		for _, more := range []string{"", "\x00", "\x01", "\x0f", "\xf0", "\xff", "\x00\x00\x00", s, everyByte(), strings.Repeat("\xff", 1000)} {
			checkUnpack(t, s+more, n, len(s))
		}
	}
}

// P2.3: one Pack behind the other, each told in its turn.
func TestUnpackOfPacksInARow(t *testing.T) {
	var row string
	for _, n := range samples() {
		s, _ := nibble.Pack(n)
		row += s
	}
	for _, want := range samples() {
		n, used, ok := nibble.Unpack(row)
		if n != want || !ok {
			t.Fatalf("Unpack = %x, %d, %v, want %x", n, used, ok, want)
		}
		row = row[used:]
	}
	if row != "" {
		t.Errorf("%x is left over", row)
	}
}
