package pool_test

import (
	"slices"
	"testing"

	"umbel/api"
)

// P8.2, FlushAll: all dirty pages, rising, whatever order they were put in; they stay in their frames.
func TestFlushAll(t *testing.T) {
	for _, order := range [][]int{{0, 1, 2, 3}, {3, 2, 1, 0}, {2, 0, 3, 1}, {1, 3, 1, 0, 2, 3}} {
		d, p := made(t, 6, 6)
		touches(t, p, 4)
		for i, at := range order {
			puts(t, p, at, laid(at, string(rune('a'+i))))
		}
		var want []api.Write
		for at := range 4 {
			last := len(order) - 1
			for order[last] != at {
				last--
			}
			want = append(want, api.Write{At: at, Data: laid(at, string(rune('a'+last)))})
		}
		soils(t, p, 0, 1, 2, 3)
		wants(t, "FlushAll", p.FlushAll(), api.OK)
		waits(t, d, want...)
		soils(t, p)
		holds(t, p, 0, 1, 2, 3, 4)
		wants(t, "FlushAll again", p.FlushAll(), api.OK)
		waits(t, d, want...)
		for _, w := range want {
			gets(t, p, w.At, w.Data)
		}
	}
}

// P8.2, FlushAll: with nothing dirty nothing is done: no action of the disk's, so not even one that is down tells an error.
func TestFlushOfNothing(t *testing.T) {
	d, p := made(t, 4, 2)
	wants(t, "FlushAll", p.FlushAll(), api.OK)
	touches(t, p, 1)
	d.Fuse(0)
	wants(t, "FlushAll", p.FlushAll(), api.OK)
	wants(t, "Sync", d.Sync(), api.ErrDown)
	wants(t, "FlushAll", p.FlushAll(), api.OK)
	waits(t, d)
	holds(t, p, 1)
}

// P8.2, FlushAll: pins and use do not keep a page from being written, and stay; what waits is not synced.
func TestFlushLeavesPinsAndUse(t *testing.T) {
	d, p := made(t, 6, 2)
	puts(t, p, 2, laid(2, "a"))
	puts(t, p, 1, laid(1, "b"))
	gets(t, p, 2, laid(2, "a"))
	wants(t, "FlushAll", p.FlushAll(), api.OK)
	waits(t, d, api.Write{At: 1, Data: laid(1, "b")}, api.Write{At: 2, Data: laid(2, "a")})
	touches(t, p, 3)
	holds(t, p, 2, 3)
	fails(t, p, -1, api.ErrRange)
	holds(t, p, 2)
	frees(t, p, 2)
	wants(t, "Unpin", p.Unpin(2), api.ErrArg)
	// 2 and then 4, both used; the hand is at 2.
	touches(t, p, 4, 5)
	holds(t, p, 4, 5)
}

// P8.2, FlushAll: use that was there is there still, what was passed is not used by it.
func TestFlushIsNoUse(t *testing.T) {
	_, p := made(t, 8, 3)
	puts(t, p, 0, old(0))
	puts(t, p, 1, old(1))
	puts(t, p, 2, old(2))
	touches(t, p, 3)
	// 3, 1, 2; the hand is at 1; 1 and 2 are not used.
	wants(t, "FlushAll", p.FlushAll(), api.OK)
	touches(t, p, 4)
	holds(t, p, 2, 3, 4)
	touches(t, p, 2, 5)
	// 3, 4, 2 were all used: all round, and 2 goes.
	holds(t, p, 3, 4, 5)
}

// P8.2, FlushAll: the first error ends it: what was written ahead is not dirty, the rest is, the one at the error too.
func TestFlushEndsAtTheError(t *testing.T) {
	for fuse := range 6 {
		d, p := made(t, 8, 5)
		places := []int{6, 0, 3, 7, 2}
		for _, at := range places {
			puts(t, p, at, laid(at, "new"))
		}
		rising := slices.Sorted(slices.Values(places))
		var all []api.Write
		for _, at := range rising {
			all = append(all, api.Write{At: at, Data: laid(at, "new")})
		}
		d.Fuse(fuse)
		if fuse == 5 {
			wants(t, "FlushAll", p.FlushAll(), api.OK)
			soils(t, p)
			waits(t, d, all...)
			continue
		}
		wants(t, "FlushAll", p.FlushAll(), api.ErrDown)
		soils(t, p, rising[fuse:]...)
		holds(t, p, rising...)
		waits(t, d, all[:fuse]...)
		wants(t, "FlushAll, down", p.FlushAll(), api.ErrDown)
		soils(t, p, rising[fuse:]...)
		d.Crash(nil)
		wants(t, "FlushAll, up", p.FlushAll(), api.OK)
		soils(t, p)
		waits(t, d, all[fuse:]...)
	}
}

// P8.2, FlushAll: pages that the file has been cut short of come behind the others: ErrRange, and those below are written.
func TestFlushOfACutFile(t *testing.T) {
	d, p := made(t, 6, 4)
	for _, at := range []int{5, 1, 3, 0} {
		puts(t, p, at, laid(at, "new"))
	}
	d.Shrink(3)
	wants(t, "FlushAll", p.FlushAll(), api.ErrRange)
	waits(t, d, api.Write{At: 0, Data: laid(0, "new")}, api.Write{At: 1, Data: laid(1, "new")})
	soils(t, p, 3, 5)
	holds(t, p, 0, 1, 3, 5)
}

// P8.2, Dirty and Held: rising, with as many frames as there may be, put from the highest down.
func TestListsRise(t *testing.T) {
	_, p := made(t, api.MaxPages, api.MaxFrames)
	var held, dirty []int
	for i := range api.MaxFrames {
		at := api.MaxPages - 1 - 3*i
		if i%2 == 0 {
			puts(t, p, at, laid(at, "new"))
			dirty = append([]int{at}, dirty...)
		} else {
			touches(t, p, at)
		}
		held = append([]int{at}, held...)
		holds(t, p, held...)
		soils(t, p, dirty...)
	}
	wants(t, "FlushAll", p.FlushAll(), api.OK)
	soils(t, p)
	holds(t, p, held...)
}

// P8.3: what is fetched is what was put last, through frames that are too few for all, and behind a flush.
func TestPutLastIsFetched(t *testing.T) {
	for _, frames := range []int{1, 2, 3, 7, api.MaxFrames} {
		d, p := made(t, 10, frames)
		want := make([]string, 10)
		for at := range want {
			want[at] = old(at)
		}
		for i := range 200 {
			at := i * 7 % 10
			if i%3 != 0 {
				want[at] = laid(at, string(rune('A'+i%50)))
				puts(t, p, at, want[at])
			}
			other := i * 3 % 10
			gets(t, p, other, want[other])
			frees(t, p, other)
			if i%20 == 19 {
				wants(t, "FlushAll", p.FlushAll(), api.OK)
				if !slices.Equal(d.Pages(), want) {
					t.Fatal("the disk has other pages")
				}
			}
			if i%50 == 49 {
				wants(t, "Sync", d.Sync(), api.OK)
			}
		}
		for at := range want {
			gets(t, p, at, want[at])
			frees(t, p, at)
		}
	}
}
