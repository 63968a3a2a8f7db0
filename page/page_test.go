package page_test

import (
	"encoding/binary"
	"hash/crc32"
	"math"
	"strings"
	"testing"
	"unsafe"

	"umbel/api"
	"umbel/page"
)

// bodySize is how many bytes stand ahead of the sum, headSize how many ahead of the payload.
const (
	bodySize = 252
	headSize = 9
)

// mixed is a text of some size whose bytes follow no plain rule; other seeds tell others.
func mixed(size int, seed uint32) string {
	b := make([]byte, size)
	v := seed*2654435761 + uint32(size) + 1
	for i := range b {
		v = v*1664525 + 1013904223
		b[i] = byte(v >> 24)
	}
	return string(b)
}

// sealed is s with its sum behind it, by the library's own.
func sealed(s string) string {
	c := crc32.Checksum([]byte(s), crc32.MakeTable(crc32.Castagnoli))
	return string(binary.BigEndian.AppendUint32([]byte(s), c))
}

// body is the bytes ahead of the sum, whatever the fields are: size is said apart from what stands in the payload's room.
func body(kind uint8, number uint16, gen uint32, size uint16, room string) string {
	b := []byte{kind}
	b = binary.BigEndian.AppendUint16(b, number)
	b = binary.BigEndian.AppendUint32(b, gen)
	b = binary.BigEndian.AppendUint16(b, size)
	b = append(b, room...)
	return string(b) + strings.Repeat("\x00", bodySize-len(b))
}

// laid is the page that the chapter says, of fields that are all as they should be.
func laid(p api.Page, at int) string {
	return sealed(body(uint8(p.Kind), uint16(at), uint32(p.Gen), uint16(len(p.Payload)), p.Payload))
}

// placed is a page and its number.
type placed struct {
	p  api.Page
	at int
}

// pages has ordinary pages, and the edges of each field.
func pages() []placed {
	l := []placed{
		{api.Page{Kind: api.Sheet, Gen: 1, Payload: "nodes"}, 3},
		{api.Page{Kind: api.Ring, Gen: 7, Payload: "abc"}, 5},
		{api.Page{Kind: api.List, Gen: 0x01020304, Payload: "\x00\x00"}, 0x0102},
		{api.Page{Kind: 1}, 0},
		{api.Page{Kind: 255, Gen: math.MaxInt32, Payload: strings.Repeat("\xff", api.Room)}, 65535},
		{api.Page{Kind: 128, Gen: 1 << 30, Payload: "\x00"}, 1 << 15},
	}
	for _, kind := range []int{1, 2, 127, 128, 254, 255} {
		l = append(l, placed{api.Page{Kind: kind, Gen: 9, Payload: "kind"}, 7})
	}
	for _, at := range []int{0, 1, 255, 256, 257, api.MaxPages, 32767, 32768, 65534, 65535} {
		l = append(l, placed{api.Page{Kind: 2, Gen: 8, Payload: "at"}, at})
	}
	for _, gen := range []int{0, 1, 255, 256, 65535, 65536, 1<<24 - 1, 1 << 24, math.MaxInt32 - 1, math.MaxInt32} {
		l = append(l, placed{api.Page{Kind: 3, Gen: gen, Payload: "gen"}, 6})
	}
	for _, size := range []int{0, 1, 2, api.Room - 1, api.Room} {
		l = append(l, placed{api.Page{Kind: 4, Gen: 5, Payload: mixed(size, 4)}, 4}, placed{api.Page{Kind: 4, Gen: 5, Payload: strings.Repeat("\x00", size)}, 4})
	}
	return l
}

// outOf has numbers below least and above most: the ones beside them, those that have the same lowest bytes as one between, and those by the ends of int.
func outOf(least, most int) []int {
	l := []int{least - 1, least - 2, most + 1, most + 2, -256, -65536, math.MinInt32, math.MinInt, math.MinInt + 1, math.MinInt + 2, math.MaxInt, math.MaxInt - 1, math.MaxInt - 255}
	for _, shift := range []int{8, 16, 31, 32, 33, 48, 62} {
		if 1<<shift > most {
			l = append(l, 1<<shift, 1<<shift+1, 1<<shift+least, 1<<shift+most, 1<<shift+5)
		}
		l = append(l, -1<<shift, -1<<shift+least-1)
	}
	return l
}

func checkPut(t *testing.T, p api.Page, at int, want string) {
	t.Helper()
	if got, ok := page.Put(p, at); got != want || !ok {
		t.Errorf("Put(%#v, %d) = %x, %v, want %x, true", p, at, got, ok, want)
	}
}

func checkRefused(t *testing.T, p api.Page, at int) {
	t.Helper()
	if got, ok := page.Put(p, at); got != "" || ok {
		t.Errorf("Put of kind %d, gen %d, %d bytes at %d = %x, %v, want nothing and false", p.Kind, p.Gen, len(p.Payload), at, got, ok)
	}
}

func checkGet(t *testing.T, b string, at int, want api.Page) {
	t.Helper()
	if got, e := page.Get(b, at); got != want || e != api.OK {
		t.Errorf("Get(%x, %d) = %#v, %d, want %#v, OK", b, at, got, e, want)
	}
}

func checkNoPage(t *testing.T, b string, at int) {
	t.Helper()
	if got, e := page.Get(b, at); got != (api.Page{}) || e != api.ErrPage {
		t.Errorf("Get(%x, %d) = %#v, %d, want nothing and ErrPage", b, at, got, e)
	}
}

func checkRight(t *testing.T, b string, want bool) {
	t.Helper()
	if got := page.Right(b); got != want {
		t.Errorf("Right(%x) = %v, want %v", b, got, want)
	}
}

// P7.1, Put: where each byte stands, the highest first, noughts behind the payload, and the sum of the 252 ahead, written out.
func TestPutByteByByte(t *testing.T) {
	noughts := strings.Repeat("\x00", api.Size)
	for _, x := range []struct {
		p    api.Page
		at   int
		want string
	}{
		{api.Page{Kind: 3, Gen: 0x01020304, Payload: "ab"}, 0x0506, "\x03\x05\x06\x01\x02\x03\x04\x00\x02ab" + noughts[:241]},
		{api.Page{Kind: 1}, 0, "\x01" + noughts[:251]},
		{api.Page{Kind: 255}, 0, "\xff" + noughts[:251]},
		{api.Page{Kind: 1}, 65535, "\x01\xff\xff" + noughts[:249]},
		{api.Page{Kind: 1, Gen: math.MaxInt32}, 0, "\x01\x00\x00\x7f\xff\xff\xff" + noughts[:245]},
		{api.Page{Kind: 1, Payload: noughts[:1]}, 0, "\x01\x00\x00\x00\x00\x00\x00\x00\x01" + noughts[:243]},
		{api.Page{Kind: 1, Payload: strings.Repeat("x", api.Room)}, 0, "\x01\x00\x00\x00\x00\x00\x00\x00\xf3" + strings.Repeat("x", 243)},
	} {
		checkPut(t, x.p, x.at, sealed(x.want))
	}
}

// P7.1, Put: a sum that is known, so that Put is not held against the library's sum alone.
func TestPutOfAKnownSum(t *testing.T) {
	b, ok := page.Put(api.Page{Kind: 1, Gen: 2, Payload: "abc"}, 3)
	if want := "\x01\x00\x03\x00\x00\x00\x02\x00\x03abc" + strings.Repeat("\x00", 240) + "\xe9\x4a\xba\x67"; b != want || !ok {
		t.Errorf("Put = %x, %v, want %x, true", b, ok, want)
	}
}

// P7.1, Put, and P7.2: ordinary pages and the edges of each field, laid down as the chapter says, right, and told again.
func TestPutAndGet(t *testing.T) {
	for _, x := range pages() {
		want := laid(x.p, x.at)
		checkPut(t, x.p, x.at, want)
		checkRight(t, want, true)
		checkGet(t, want, x.at, x.p)
	}
}

// P7.1 and P7.2: each kind, each size of a payload, and each bit of Gen.
func TestEachKindSizeAndBit(t *testing.T) {
	for kind := 1; kind <= 255; kind++ {
		p := api.Page{Kind: kind, Gen: 17, Payload: mixed(20, uint32(kind))}
		checkPut(t, p, 12, laid(p, 12))
		checkGet(t, laid(p, 12), 12, p)
	}
	for size := range api.Room + 1 {
		p := api.Page{Kind: 1, Gen: 18, Payload: mixed(size, 1)}
		checkPut(t, p, 13, laid(p, 13))
		checkGet(t, laid(p, 13), 13, p)
	}
	for bit := range 31 {
		p := api.Page{Kind: 2, Gen: 1 << bit, Payload: "bit"}
		checkPut(t, p, 14, laid(p, 14))
		checkGet(t, laid(p, 14), 14, p)
	}
}

// P7.1 and P7.2: each number.
func TestEachNumber(t *testing.T) {
	p := api.Page{Kind: 3, Gen: 1000, Payload: mixed(30, 3)}
	for at := range 65536 {
		b := laid(p, at)
		checkPut(t, p, at, b)
		checkGet(t, b, at, p)
		if t.Failed() {
			return
		}
	}
}

// P7.1, Put: a field, or the number, that is none of those named, all else as it should be.
func TestPutRefused(t *testing.T) {
	for _, payload := range []string{"", "abc", mixed(api.Room, 2)} {
		for _, kind := range outOf(1, 255) {
			checkRefused(t, api.Page{Kind: kind, Gen: 1, Payload: payload}, 2)
		}
		for _, at := range outOf(0, 65535) {
			checkRefused(t, api.Page{Kind: 1, Gen: 1, Payload: payload}, at)
		}
		for _, gen := range outOf(0, math.MaxInt32) {
			checkRefused(t, api.Page{Kind: 1, Gen: gen, Payload: payload}, 2)
		}
	}
	for _, size := range []int{api.Room + 1, api.Room + 2, bodySize, api.Size, 2 * api.Room, 65535, 65536, 65537, 65536 + api.Room, 1 << 20} {
		checkRefused(t, api.Page{Kind: 1, Gen: 1, Payload: mixed(size, 3)}, 2)
		checkRefused(t, api.Page{Kind: 1, Gen: 1, Payload: strings.Repeat("\x00", size)}, 2)
	}
}

// P7.1, Put: several fields at once that are none of those named.
func TestPutRefusedForSeveral(t *testing.T) {
	long := strings.Repeat("x", api.Room+1)
	for _, p := range []api.Page{{}, {Kind: -1, Gen: -1, Payload: long}, {Kind: 256, Gen: 1 << 31, Payload: long}, {Kind: math.MinInt, Gen: math.MaxInt}, {Kind: math.MaxInt, Gen: math.MinInt, Payload: long}} {
		for _, at := range []int{-1, 65536, math.MinInt, math.MaxInt} {
			checkRefused(t, p, at)
		}
	}
}

// P7.2: at another number, the ones beside it, those of the same lowest bytes, and those by the ends of int, it is ErrPage.
func TestGetAtAnotherNumber(t *testing.T) {
	for _, x := range pages() {
		b := laid(x.p, x.at)
		others := append(outOf(0, 65535), x.at+1, x.at-1, x.at+256, x.at-256, x.at^1, x.at^0x8000, x.at+65536, x.at-65536, x.at+1<<32, -x.at-1, x.at>>8|x.at&0xff<<8)
		for _, at := range others {
			if at != x.at {
				checkNoPage(t, b, at)
			}
		}
	}
}

// P7.2: one page, at each number of all.
func TestGetAtAllNumbers(t *testing.T) {
	p, own := api.Page{Kind: 1, Gen: 3, Payload: "here"}, 0x1234
	b := laid(p, own)
	for at := -70000; at <= 140000; at++ {
		if at == own {
			checkGet(t, b, at, p)
		} else {
			checkNoPage(t, b, at)
		}
		if t.Failed() {
			return
		}
	}
}

// P7.1, Get and Right, the chapter's example: each byte by itself turned in one bit, or in all, those of the sum too.
func TestAByteTurned(t *testing.T) {
	for _, x := range pages() {
		whole := laid(x.p, x.at)
		for i := range len(whole) {
			for _, turn := range []byte{1, 2, 4, 8, 0x10, 0x20, 0x40, 0x80, 0xff} {
				b := []byte(whole)
				b[i] ^= turn
				checkNoPage(t, string(b), x.at)
				checkRight(t, string(b), false)
			}
		}
		checkGet(t, whole, x.at, x.p)
	}
}

// P7.1, Get: a byte turned and the sum made anew: it is the page of those bytes, if there is such a one, and else ErrPage; Right looks at the sum alone.
func TestAByteTurnedAndSealed(t *testing.T) {
	for _, x := range pages() {
		whole := laid(x.p, x.at)[:bodySize]
		for i := range bodySize {
			for _, turn := range []byte{1, 2, 0x10, 0x80, 0xff} {
				b := []byte(whole)
				b[i] ^= turn
				s := sealed(string(b))
				checkRight(t, s, true)
				if want, ok := told(s, x.at); ok {
					checkGet(t, s, x.at, want)
				} else {
					checkNoPage(t, s, x.at)
				}
			}
		}
	}
}

// told is what Get should tell of bytes with a right sum, read off field by field.
func told(b string, at int) (api.Page, bool) {
	size := int(b[7])*256 + int(b[8])
	gen := (int(b[3])*256+int(b[4]))*65536 + int(b[5])*256 + int(b[6])
	if b[0] == 0 || int(b[1])*256+int(b[2]) != at || b[3] > 127 || size > api.Room {
		return api.Page{}, false
	}
	if strings.Trim(b[headSize+size:bodySize], "\x00") != "" {
		return api.Page{}, false
	}
	return api.Page{Kind: int(b[0]), Gen: gen, Payload: b[headSize : headSize+size]}, true
}

// P7.1, Get: bytes whose sum is right and that no Put tells.
func TestSealedAndNoPage(t *testing.T) {
	full := strings.Repeat("a", api.Room)
	for _, x := range []struct {
		name string
		body string
	}{
		{"all noughts", strings.Repeat("\x00", bodySize)},
		{"all ones", strings.Repeat("\xff", bodySize)},
		{"kind 0", body(0, 5, 1, 1, "a")},
		{"the number above", body(1, 6, 1, 1, "a")},
		{"the number below", body(1, 4, 1, 1, "a")},
		{"the number, the lowest byte first", body(1, 0x0500, 1, 1, "a")},
		{"gen 2^31", body(1, 5, 1<<31, 1, "a")},
		{"gen above 2^31", body(1, 5, 1<<31+1, 1, "a")},
		{"the greatest gen", body(1, 5, math.MaxUint32, 1, "a")},
		{"one byte more than there is room for", body(1, 5, 1, api.Room+1, full)},
		{"the same, of noughts", body(1, 5, 1, api.Room+1, "")},
		{"the size of all ahead of the sum", body(1, 5, 1, bodySize, full)},
		{"the size of a page", body(1, 5, 1, api.Size, full)},
		{"a size whose lowest byte is Room", body(1, 5, 1, 1<<8+api.Room, full)},
		{"a size below 0, were it signed", body(1, 5, 1, 1<<15, full)},
		{"the greatest size", body(1, 5, 1, math.MaxUint16, full)},
		{"a byte behind no payload", body(1, 5, 1, 0, "a")},
		{"a byte behind the payload", body(1, 5, 1, 1, "ab")},
		{"a byte far behind the payload", body(1, 5, 1, 1, "a"+strings.Repeat("\x00", api.Room-2)+"b")},
		{"a byte behind all but one", body(1, 5, 1, api.Room-1, full)},
	} {
		b := sealed(x.body)
		if len(b) != api.Size {
			t.Fatalf("%s: the test made %d bytes", x.name, len(b))
		}
		checkRight(t, b, true)
		checkNoPage(t, b, 5)
		if t.Failed() {
			t.Fatal(x.name)
		}
	}
}

// P7.1, Get: each place behind the payload, with a byte there that is not 0.
func TestEachPlaceBehindThePayload(t *testing.T) {
	for _, size := range []int{0, 1, 100, api.Room - 1} {
		for i := size; i < api.Room; i++ {
			room := []byte(mixed(size, 9) + strings.Repeat("\x00", api.Room-size))
			room[i] = 1
			b := sealed(body(2, 5, 1, uint16(size), string(room)))
			checkRight(t, b, true)
			checkNoPage(t, b, 5)
		}
	}
}

// P7.1, Get: each size that the two bytes can tell, of a room full of noughts: up to Room it is a page.
func TestEachSizeTold(t *testing.T) {
	for size := range 65536 {
		b := sealed(body(1, 5, 1, uint16(size), ""))
		if size <= api.Room {
			checkGet(t, b, 5, api.Page{Kind: 1, Gen: 1, Payload: strings.Repeat("\x00", size)})
		} else {
			checkNoPage(t, b, 5)
		}
		if t.Failed() {
			return
		}
	}
}

// P7.1, Get and Right: texts that are not as long as a page, with a right sum, or cut off from a page, or with bytes behind it.
func TestTextsOfOtherSizes(t *testing.T) {
	p := api.Page{Kind: 1, Gen: 1, Payload: "abc"}
	whole := laid(p, 0)
	for size := range api.Size {
		checkRight(t, whole[:size], false)
		checkNoPage(t, whole[:size], 0)
		checkRight(t, whole[api.Size-size:], false)
		checkNoPage(t, whole[api.Size-size:], 0)
	}
	for _, more := range []string{"\x00", "a", "\x00\x00\x00\x00", whole} {
		checkRight(t, whole+more, false)
		checkNoPage(t, whole+more, 0)
		checkRight(t, more+whole, false)
		checkNoPage(t, more+whole, 0)
	}
	for size := range 2*api.Size + 1 {
		s := sealed((whole[:bodySize] + mixed(2*api.Size, 1))[:size])
		checkRight(t, s, size == bodySize)
		if size != bodySize {
			checkNoPage(t, s, 0)
		}
	}
}

// P7.1, Right: any 252 bytes and their sum, also where they are no page; not the sum in another order, nor another sum.
func TestRight(t *testing.T) {
	for seed := range uint32(100) {
		s := mixed(bodySize, seed)
		b := sealed(s)
		checkRight(t, b, true)
		c := []byte(b[bodySize:])
		checkRight(t, s+string([]byte{c[3], c[2], c[1], c[0]}), false)
		checkRight(t, s+string([]byte{^c[0], ^c[1], ^c[2], ^c[3]}), false)
		checkRight(t, string(c)+s, false)
		checkRight(t, s+"\x00\x00\x00\x00", false)
	}
}

// P7.1: what a disk has for a page that was never written: no page, and not right.
func TestAPageOfNoughts(t *testing.T) {
	b := strings.Repeat("\x00", api.Size)
	checkRight(t, b, false)
	for _, at := range []int{0, 1, -1, 65536} {
		checkNoPage(t, b, at)
	}
}

// within tells whether the two texts share memory.
func within(a, b string) bool {
	if len(a) == 0 || len(b) == 0 {
		return false
	}
	x, y := uintptr(unsafe.Pointer(unsafe.StringData(a))), uintptr(unsafe.Pointer(unsafe.StringData(b)))
	return x < y+uintptr(len(b)) && y < x+uintptr(len(a))
}

// Rules 2 and 4: an answer shares no memory with an argument or another answer, and hangs on no call ahead of it.
func TestAnswersStandByThemselves(t *testing.T) {
	for _, x := range pages() {
		if len(x.p.Payload) < 2 {
			continue
		}
		first, _ := page.Put(x.p, x.at)
		page.Put(api.Page{Kind: 9, Gen: 9, Payload: mixed(api.Room, 9)}, 9)
		page.Get(laid(api.Page{Kind: 8, Gen: 8, Payload: mixed(api.Room, 8)}, 8), 8)
		second, _ := page.Put(x.p, x.at)
		if first != second || within(first, second) || within(first, x.p.Payload) {
			t.Errorf("Put(%#v, %d) a second time: alike %v", x.p, x.at, first == second)
		}
		one, _ := page.Get(first, x.at)
		two, _ := page.Get(first, x.at)
		if one != two || within(one.Payload, two.Payload) || within(one.Payload, first) || within(one.Payload, x.p.Payload) {
			t.Errorf("Get(%x, %d) a second time: alike %v", first, x.at, one == two)
		}
	}
}
