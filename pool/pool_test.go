package pool_test

import (
	"math"
	"slices"
	"strings"
	"testing"
	"unsafe"

	"umbel/api"
	"umbel/disk"
	"umbel/page"
	"umbel/pool"
	"umbel/sum"
)

// laid is the page of that number with that payload, as its layer lays it down.
func laid(at int, payload string) string {
	s, _ := page.Put(api.Page{Kind: api.Sheet, Gen: 1, Payload: payload}, at)
	return s
}

// old is what the disk has for a page at first.
func old(at int) string { return laid(at, "old") }

// full is a page of one byte only, which is not right.
func full(c string) string { return strings.Repeat(c, api.Size) }

// made is a disk of so many right pages, and a pool of so many frames over it.
func made(t *testing.T, pages, frames int) (*disk.Disk, *pool.Pool) {
	t.Helper()
	var l []string
	for at := range pages {
		l = append(l, old(at))
	}
	d, ok := disk.From(l, api.MaxPages)
	if !ok {
		t.Fatalf("a disk of %d pages", pages)
	}
	p, ok := pool.New(d, frames)
	if !ok || p == nil {
		t.Fatalf("a pool of %d frames: %v", frames, ok)
	}
	return d, p
}

// wants checks an error's number.
func wants(t *testing.T, what string, got, want api.Errno) {
	t.Helper()
	if got != want {
		t.Fatalf("%s: %d, want %d", what, got, want)
	}
}

// gets checks that a page is fetched with these bytes.
func gets(t *testing.T, p *pool.Pool, at int, want string) {
	t.Helper()
	got, e := p.Fetch(at)
	wants(t, "Fetch", e, api.OK)
	if got != want {
		t.Fatalf("Fetch(%d): other bytes", at)
	}
}

// fails checks that a page is not fetched.
func fails(t *testing.T, p *pool.Pool, at int, want api.Errno) {
	t.Helper()
	got, e := p.Fetch(at)
	wants(t, "Fetch", e, want)
	if got != "" {
		t.Fatalf("Fetch(%d): %d bytes beside an error", at, len(got))
	}
}

// puts checks that a page is put.
func puts(t *testing.T, p *pool.Pool, at int, data string) {
	t.Helper()
	wants(t, "Put", p.Put(at, data), api.OK)
}

// frees checks that a pin is taken away.
func frees(t *testing.T, p *pool.Pool, at int) {
	t.Helper()
	wants(t, "Unpin", p.Unpin(at), api.OK)
}

// touches fetches pages as the disk had them at first, and leaves no pin on them.
func touches(t *testing.T, p *pool.Pool, pages ...int) {
	t.Helper()
	for _, at := range pages {
		gets(t, p, at, old(at))
		frees(t, p, at)
	}
}

// holds checks which pages have a frame; twice, since asking must change nothing.
func holds(t *testing.T, p *pool.Pool, want ...int) {
	t.Helper()
	for range 2 {
		if got := p.Held(); !slices.Equal(got, want) {
			t.Fatalf("Held: %v, want %v", got, want)
		}
	}
}

// soils checks which pages are dirty; twice, likewise.
func soils(t *testing.T, p *pool.Pool, want ...int) {
	t.Helper()
	for range 2 {
		if got := p.Dirty(); !slices.Equal(got, want) {
			t.Fatalf("Dirty: %v, want %v", got, want)
		}
	}
}

// waits checks what waits on the disk, in order.
func waits(t *testing.T, d *disk.Disk, want ...api.Write) {
	t.Helper()
	if got := d.Waiting(); !slices.Equal(got, want) {
		t.Fatalf("Waiting: %d, not the %d that should", len(got), len(want))
	}
}

// P8.1, New: from one frame to the most; so many pages have a frame, and no more.
func TestNew(t *testing.T) {
	for _, frames := range []int{1, 2, 3, api.MaxFrames - 1, api.MaxFrames} {
		_, p := made(t, api.MaxFrames+2, frames)
		holds(t, p)
		soils(t, p)
		var want []int
		for at := range frames {
			gets(t, p, at, old(at))
			want = append(want, at)
		}
		holds(t, p, want...)
		soils(t, p)
		fails(t, p, frames, api.ErrPool)
		holds(t, p, want...)
	}
}

// P8.1, New: without a disk, and of frames that are too few or too many.
func TestNewRefused(t *testing.T) {
	d, ok := disk.New(4)
	if !ok {
		t.Fatal("a disk")
	}
	for _, frames := range []int{0, -1, -2, math.MinInt, api.MaxFrames + 1, api.MaxFrames + 2, 1 << 32, 1<<32 + 1, math.MaxInt} {
		for _, on := range []*disk.Disk{d, nil} {
			if p, ok := pool.New(on, frames); p != nil || ok {
				t.Errorf("New of %d frames: %v", frames, ok)
			}
		}
	}
	for _, frames := range []int{1, 2, api.MaxFrames} {
		if p, ok := pool.New(nil, frames); p != nil || ok {
			t.Errorf("New of %d frames without a disk: %v", frames, ok)
		}
	}
}

// P8.1, New: a disk that is down, or has no pages, is one; what it lacks is told later.
func TestNewOnAnyDisk(t *testing.T) {
	d, _ := disk.New(1)
	p, ok := pool.New(d, 2)
	if !ok {
		t.Fatal("without pages")
	}
	fails(t, p, 0, api.ErrRange)
	wants(t, "Put", p.Put(0, old(0)), api.ErrArg)
	d.Grow(1)
	fails(t, p, 0, api.ErrPage)
	d.Fuse(0)
	d.Sync()
	if p, ok = pool.New(d, 2); !ok {
		t.Fatal("down")
	}
	fails(t, p, 0, api.ErrDown)
	puts(t, p, 0, old(0))
	gets(t, p, 0, old(0))
	wants(t, "FlushAll", p.FlushAll(), api.ErrDown)
}

// P8.1, Fetch, the chapter's example: one frame that is pinned.
func TestOneFramePinned(t *testing.T) {
	d, p := made(t, 3, 1)
	gets(t, p, 1, old(1))
	for _, at := range []int{0, 2, -1, 3, math.MaxInt, math.MinInt} {
		fails(t, p, at, api.ErrPool)
	}
	wants(t, "Put", p.Put(0, old(0)), api.ErrPool)
	holds(t, p, 1)
	soils(t, p)
	waits(t, d)
	gets(t, p, 1, old(1))
	frees(t, p, 1)
	fails(t, p, 0, api.ErrPool)
	frees(t, p, 1)
	gets(t, p, 0, old(0))
	holds(t, p, 0)
}

// P8.1, Fetch and Unpin: each fetch is one pin more, also of a page that was put.
func TestPins(t *testing.T) {
	for pins := 1; pins <= 5; pins++ {
		for _, isPut := range []bool{false, true} {
			_, p := made(t, 3, 1)
			want := old(0)
			if isPut {
				want = laid(0, "new")
				puts(t, p, 0, want)
				wants(t, "Unpin of what was put", p.Unpin(0), api.ErrArg)
			}
			for range pins {
				gets(t, p, 0, want)
			}
			for range pins {
				fails(t, p, 1, api.ErrPool)
				wants(t, "Put", p.Put(1, old(1)), api.ErrPool)
				frees(t, p, 0)
			}
			wants(t, "Unpin below no pins", p.Unpin(0), api.ErrArg)
			holds(t, p, 0)
			gets(t, p, 1, old(1))
			wants(t, "Unpin of what is gone", p.Unpin(0), api.ErrArg)
		}
	}
}

// P8.1, Unpin: of pages that no frame has, of ones without pins, of numbers that are no page's.
func TestUnpinRefused(t *testing.T) {
	d, p := made(t, 4, 3)
	gets(t, p, 1, old(1))
	touches(t, p, 2)
	puts(t, p, 3, laid(3, "new"))
	for _, at := range []int{0, 2, 3, 4, -1, -2, 1 << 32, 1<<32 + 1, math.MaxInt, math.MinInt} {
		wants(t, "Unpin", p.Unpin(at), api.ErrArg)
	}
	holds(t, p, 1, 2, 3)
	soils(t, p, 3)
	waits(t, d)
	frees(t, p, 1)
	wants(t, "Unpin", p.Unpin(1), api.ErrArg)
}

// P8.1, Fetch: numbers that are no page's: ErrRange, in a pool with an empty frame.
func TestFetchOutside(t *testing.T) {
	d, p := made(t, 3, 2)
	for _, at := range []int{-1, -2, 3, 4, 1 << 32, 1<<32 + 1, math.MaxInt, math.MinInt} {
		fails(t, p, at, api.ErrRange)
		holds(t, p)
	}
	touches(t, p, 0, 2)
	d.Grow(4)
	d.Write(3, old(3))
	touches(t, p, 3)
	holds(t, p, 2, 3)
}

// P8.1, Fetch: the frame is found ahead of the read: what had it is gone, and was written, though nothing comes.
func TestFrameFoundAheadOfTheRead(t *testing.T) {
	for _, x := range []struct {
		at   int
		want api.Errno
	}{{-1, api.ErrRange}, {4, api.ErrRange}, {3, api.ErrPage}} {
		d, p := made(t, 4, 1)
		bad := api.Write{At: 3, Data: full("x")}
		d.Write(bad.At, bad.Data)
		puts(t, p, 0, laid(0, "new"))
		fails(t, p, x.at, x.want)
		holds(t, p)
		soils(t, p)
		waits(t, d, bad, api.Write{At: 0, Data: laid(0, "new")})
		fails(t, p, x.at, x.want)
		wants(t, "Unpin", p.Unpin(x.at), api.ErrArg)
		gets(t, p, 0, laid(0, "new"))
	}
}

// P8.1, Fetch: ErrPage, unless page.Right: one byte turned, noughts; it is read anew each time.
func TestPagesThatAreNotRight(t *testing.T) {
	d, p := made(t, 2, 2)
	for i := range api.Size {
		b := []byte(old(1))
		b[i] ^= 1
		d.Write(1, string(b))
		fails(t, p, 1, api.ErrPage)
		holds(t, p)
		wants(t, "Unpin", p.Unpin(1), api.ErrArg)
	}
	d.Write(1, full("\x00"))
	fails(t, p, 1, api.ErrPage)
	d.Write(1, old(1))
	gets(t, p, 1, old(1))
}

// P8.1, Fetch: page.Right is all that is asked: another number's page, and bytes that are no page's, are told.
func TestRightIsEnough(t *testing.T) {
	d, p := made(t, 3, 2)
	d.Write(0, old(2))
	gets(t, p, 0, old(2))
	body := full("\x00")[4:]
	noKind := body + sum.Put(sum.Of(body))
	d.Write(1, noKind)
	gets(t, p, 1, noKind)
}

// P8.1, Fetch: what has a frame is told from it, whatever the disk has by now, and whether or not it is right there.
func TestFetchFromTheFrame(t *testing.T) {
	d, p := made(t, 3, 2)
	gets(t, p, 0, old(0))
	d.Write(0, full("x"))
	gets(t, p, 0, old(0))
	d.Shrink(0)
	gets(t, p, 0, old(0))
	d.Fuse(0)
	d.Sync()
	gets(t, p, 0, old(0))
	fails(t, p, 1, api.ErrDown)
	holds(t, p, 0)
	soils(t, p)
}

// P8.1, Put: of a page that no frame has, and of one that has, at the first place and the last; nothing goes to the disk yet.
func TestPut(t *testing.T) {
	d, p := made(t, 4, 3)
	puts(t, p, 3, laid(3, "a"))
	puts(t, p, 0, laid(0, "b"))
	holds(t, p, 0, 3)
	soils(t, p, 0, 3)
	puts(t, p, 3, laid(3, "c"))
	gets(t, p, 3, laid(3, "c"))
	gets(t, p, 0, laid(0, "b"))
	gets(t, p, 1, old(1))
	soils(t, p, 0, 3)
	puts(t, p, 1, laid(1, "d"))
	gets(t, p, 1, laid(1, "d"))
	holds(t, p, 0, 1, 3)
	soils(t, p, 0, 1, 3)
	waits(t, d)
}

// P8.1, Put: of a page that a frame has the pins stay; a new one has none.
func TestPutKeepsPins(t *testing.T) {
	for pins := range 4 {
		_, p := made(t, 3, 1)
		for range pins {
			gets(t, p, 0, old(0))
		}
		puts(t, p, 0, laid(0, "new"))
		for range pins {
			fails(t, p, 1, api.ErrPool)
			frees(t, p, 0)
		}
		wants(t, "Unpin", p.Unpin(0), api.ErrArg)
		gets(t, p, 1, old(1))
	}
}

// P8.1, Put: bytes need not be a page's; they are told from the frame, and are ErrPage once they were on the disk.
func TestPutOfAnyBytes(t *testing.T) {
	d, p := made(t, 3, 1)
	for _, s := range []string{full("x"), full("\x00"), old(2)} {
		puts(t, p, 0, s)
		gets(t, p, 0, s)
		frees(t, p, 0)
	}
	puts(t, p, 0, full("x"))
	touches(t, p, 1)
	waits(t, d, api.Write{At: 0, Data: full("x")})
	fails(t, p, 0, api.ErrPage)
}

// P8.1, Put: data that is no whole page, and places that are none: ErrArg, ahead of all else, and nothing is changed.
func TestPutRefused(t *testing.T) {
	for _, pinned := range []bool{false, true} {
		d, p := made(t, 3, 1)
		if pinned {
			gets(t, p, 0, old(0))
		} else {
			touches(t, p, 0)
		}
		for _, at := range []int{0, 1, 2, -1, 3} {
			for _, size := range []int{0, 1, api.Size - 1, api.Size + 1, 2 * api.Size} {
				wants(t, "Put of no whole page", p.Put(at, strings.Repeat("x", size)), api.ErrArg)
			}
		}
		for _, at := range []int{-1, -2, 3, 4, 1 << 32, math.MaxInt, math.MinInt} {
			wants(t, "Put outside", p.Put(at, old(0)), api.ErrArg)
		}
		holds(t, p, 0)
		soils(t, p)
		waits(t, d)
		gets(t, p, 0, old(0))
	}
}

// P8.1, Put: the disk's Length is that of now: beyond it ErrArg also of a page that a frame has.
func TestPutAsTheDiskGrowsAndShrinks(t *testing.T) {
	d, p := made(t, 2, 3)
	wants(t, "Put", p.Put(2, old(2)), api.ErrArg)
	d.Grow(3)
	puts(t, p, 2, laid(2, "a"))
	d.Shrink(2)
	wants(t, "Put", p.Put(2, laid(2, "b")), api.ErrArg)
	gets(t, p, 2, laid(2, "a"))
	soils(t, p, 2)
	puts(t, p, 1, laid(1, "c"))
}

// P8.1, Put: a disk that is down has a length, and is not asked for more.
func TestPutWhenDown(t *testing.T) {
	d, p := made(t, 3, 2)
	d.Fuse(0)
	d.Sync()
	puts(t, p, 2, laid(2, "a"))
	puts(t, p, 2, laid(2, "b"))
	puts(t, p, 0, laid(0, "c"))
	wants(t, "Put", p.Put(3, old(3)), api.ErrArg)
	wants(t, "Put", p.Put(1, old(1)), api.ErrDown)
	gets(t, p, 2, laid(2, "b"))
	soils(t, p, 0, 2)
}

// P8.2: of nil ErrArg, and nothing.
func TestNil(t *testing.T) {
	var p *pool.Pool
	for _, at := range []int{0, 1, -1, math.MaxInt, math.MinInt} {
		fails(t, p, at, api.ErrArg)
		wants(t, "Unpin", p.Unpin(at), api.ErrArg)
		wants(t, "Put", p.Put(at, old(0)), api.ErrArg)
		wants(t, "Put of nothing", p.Put(at, ""), api.ErrArg)
	}
	wants(t, "FlushAll", p.FlushAll(), api.ErrArg)
	holds(t, p)
	soils(t, p)
}

// within tells whether the two texts share memory.
func within(a, b string) bool {
	x, y := uintptr(unsafe.Pointer(unsafe.StringData(a))), uintptr(unsafe.Pointer(unsafe.StringData(b)))
	return x < y+uintptr(len(b)) && y < x+uintptr(len(a))
}

// Rule 2: what is fetched shares no memory with what was put, nor with another answer.
func TestToldIsNew(t *testing.T) {
	_, p := made(t, 3, 2)
	data := laid(0, "new")
	puts(t, p, 0, data)
	for _, at := range []int{0, 1} {
		one, _ := p.Fetch(at)
		two, _ := p.Fetch(at)
		if one != two || within(one, two) || within(one, data) || within(two, data) {
			t.Errorf("Fetch(%d) a second time: alike %v", at, one == two)
		}
	}
}

// Rule 2: what is put is copied: the giver's memory is not kept.
func TestPutIsCopied(t *testing.T) {
	d, p := made(t, 2, 1)
	given := []byte(laid(0, "new"))
	puts(t, p, 0, unsafe.String(&given[0], len(given)))
	clear(given)
	gets(t, p, 0, laid(0, "new"))
	wants(t, "FlushAll", p.FlushAll(), api.OK)
	waits(t, d, api.Write{At: 0, Data: laid(0, "new")})
}

// Rule 2: the lists that are told are the asker's, their spare room too.
func TestListsAreNew(t *testing.T) {
	_, p := made(t, 20, 20)
	var want []int
	for at := range 20 {
		puts(t, p, at, laid(at, "new"))
		want = append(want, at)
		for _, l := range [][]int{p.Held(), p.Dirty()} {
			l = l[:cap(l)]
			for i := range l {
				l[i] = -7
			}
		}
		holds(t, p, want...)
		soils(t, p, want...)
	}
}

// Rule 4: two pools of one disk share nothing but the disk.
func TestPoolsApart(t *testing.T) {
	d, one := made(t, 4, 2)
	other, _ := pool.New(d, 2)
	puts(t, one, 0, laid(0, "new"))
	gets(t, other, 0, old(0))
	holds(t, one, 0)
	holds(t, other, 0)
	soils(t, other)
	wants(t, "Unpin", one.Unpin(0), api.ErrArg)
	frees(t, other, 0)
	wants(t, "FlushAll", other.FlushAll(), api.OK)
	waits(t, d)
	wants(t, "FlushAll", one.FlushAll(), api.OK)
	gets(t, other, 0, old(0))
	third, _ := pool.New(d, 1)
	gets(t, third, 0, laid(0, "new"))
}
