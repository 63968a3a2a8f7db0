package pool_test

import (
	"testing"

	"umbel/api"
)

// P8.1, how a frame is found: all were used: each is passed once, and then it is the one at which the hand began.
func TestUsedIsPassedOnce(t *testing.T) {
	for frames := 1; frames <= 5; frames++ {
		_, p := made(t, 20, frames)
		want := []int{}
		for at := range frames {
			touches(t, p, at)
			want = append(want, at)
		}
		// The one that comes is used, the others are no longer: the hand goes on, frame by frame, and is round again when all are used anew.
		for at := frames; at < 20; at++ {
			touches(t, p, at)
			want = append(want[1:], at)
			holds(t, p, want...)
		}
	}
}

// P8.1, how a frame is found: one that was used since is passed, and is the one the next time.
func TestUsedAgain(t *testing.T) {
	for _, use := range []string{"fetch", "put"} {
		_, p := made(t, 20, 3)
		touches(t, p, 0, 1, 2, 3)
		holds(t, p, 1, 2, 3)
		// Frames have 3, 1, 2; the hand is at 1, of which no use is left.
		if use == "fetch" {
			touches(t, p, 1)
		} else {
			puts(t, p, 1, old(1))
		}
		touches(t, p, 4)
		holds(t, p, 1, 3, 4)
		// 3, 1, 4; the hand is at 3, which is passed; 1 was passed already.
		touches(t, p, 5)
		holds(t, p, 3, 4, 5)
		// 3, 5, 4; the hand is at 4, which is passed; 3 was passed already.
		touches(t, p, 6)
		holds(t, p, 4, 5, 6)
	}
}

// P8.1, how a frame is found: an Unpin alone is no use.
func TestUnpinIsNoUse(t *testing.T) {
	_, p := made(t, 20, 3)
	touches(t, p, 0)
	gets(t, p, 1, old(1))
	touches(t, p, 2, 3)
	holds(t, p, 1, 2, 3)
	// 3, 1, 2; the hand is at 1, which has a pin, and its use: what has pins is passed as it is.
	touches(t, p, 4)
	holds(t, p, 1, 3, 4)
	frees(t, p, 1)
	// 3, 1, 4, all used; the hand is at 3: it goes all round.
	touches(t, p, 5)
	holds(t, p, 1, 4, 5)
	// 5, 1, 4; the hand is at 1, of which no use is left.
	gets(t, p, 4, old(4))
	touches(t, p, 6)
	holds(t, p, 4, 5, 6)
	// 5, 6, 4; the hand is at 4, which has a pin; 5 and 6 are passed, then 5 is the one; 4 is still used.
	touches(t, p, 7)
	holds(t, p, 4, 6, 7)
	frees(t, p, 4)
	// 7, 6, 4; the hand is at 6.
	touches(t, p, 8)
	holds(t, p, 4, 7, 8)
	// 7, 8, 4; the hand is at 4, which is used: it is passed, 7 and 8 too, then it goes.
	touches(t, p, 9)
	holds(t, p, 7, 8, 9)
}

// P8.1, how a frame is found: what has pins is passed, wherever it stands, however often the hand comes.
func TestPinnedIsPassed(t *testing.T) {
	for pinned := range 3 {
		_, p := made(t, 30, 3)
		for at := range 3 {
			gets(t, p, at, old(at))
			if at != pinned {
				frees(t, p, at)
			}
		}
		for at := 3; at < 30; at++ {
			touches(t, p, at)
			if at > 3 {
				holds(t, p, pinned, at-1, at)
			}
		}
		for at := range 30 {
			if at != pinned {
				wants(t, "Unpin", p.Unpin(at), api.ErrArg)
			}
		}
		frees(t, p, pinned)
	}
}

// P8.1, how a frame is found: but one has pins: that one is given each time, the second time round.
func TestOneWithoutPins(t *testing.T) {
	for free := range 4 {
		_, p := made(t, 20, 4)
		for at := range 4 {
			gets(t, p, at, old(at))
		}
		fails(t, p, 4, api.ErrPool)
		frees(t, p, free)
		for at := 4; at < 20; at++ {
			touches(t, p, at)
		}
		gets(t, p, 10, old(10))
		fails(t, p, 11, api.ErrPool)
		for at := range 4 {
			if at != free {
				gets(t, p, at, old(at))
			}
		}
	}
}

// P8.1, how a frame is found: ErrPool leaves the hand, and all use, as they were.
func TestErrPoolChangesNothing(t *testing.T) {
	_, p := made(t, 20, 3)
	touches(t, p, 0, 1, 2, 3)
	// 3, 1, 2; the hand is at 1; only 3 was used.
	holds(t, p, 1, 2, 3)
	for at := 1; at <= 3; at++ {
		gets(t, p, at, old(at))
	}
	for range 4 {
		fails(t, p, 4, api.ErrPool)
		wants(t, "Put", p.Put(4, old(4)), api.ErrPool)
	}
	for at := 1; at <= 3; at++ {
		frees(t, p, at)
	}
	// All were used: the hand goes round, and 1 is the one.
	touches(t, p, 5)
	holds(t, p, 2, 3, 5)
	touches(t, p, 6)
	holds(t, p, 3, 5, 6)
}

// P8.1, how a frame is found: the first empty one is taken, whatever the hand says, which stays where it is.
func TestEmptyFrameFirst(t *testing.T) {
	d, p := made(t, 20, 4)
	d.Write(19, full("x"))
	touches(t, p, 0, 1, 2, 3, 4)
	holds(t, p, 1, 2, 3, 4)
	// 4, 1, 2, 3; the hand is at 1. Its frame is emptied, and stays so: the hand is at 2.
	fails(t, p, 19, api.ErrPage)
	holds(t, p, 2, 3, 4)
	fails(t, p, 19, api.ErrPage)
	fails(t, p, 20, api.ErrRange)
	fails(t, p, -1, api.ErrRange)
	holds(t, p, 2, 3, 4)
	touches(t, p, 5)
	holds(t, p, 2, 3, 4, 5)
	// 4, 5, 2, 3: the hand is still at 2.
	touches(t, p, 6)
	holds(t, p, 3, 4, 5, 6)
	touches(t, p, 7)
	holds(t, p, 4, 5, 6, 7)
	// 4, 5, 6, 7, all used, and the hand is at 4.
	touches(t, p, 8)
	holds(t, p, 5, 6, 7, 8)
}

// P8.1, how a frame is found: an empty one is taken by Put likewise, and there though all others have pins.
func TestEmptyFrameBesidePins(t *testing.T) {
	d, p := made(t, 20, 3)
	d.Write(19, full("x"))
	gets(t, p, 0, old(0))
	touches(t, p, 1)
	gets(t, p, 2, old(2))
	fails(t, p, 19, api.ErrPage)
	holds(t, p, 0, 2)
	puts(t, p, 3, laid(3, "new"))
	holds(t, p, 0, 2, 3)
	frees(t, p, 0)
	// 0, 3, 2, all used; the hand is at 2, which has a pin: 0 and 3 are passed, then 0 goes.
	touches(t, p, 4)
	holds(t, p, 2, 3, 4)
	waits(t, d, api.Write{At: 19, Data: full("x")})
	touches(t, p, 5)
	holds(t, p, 2, 4, 5)
	waits(t, d, api.Write{At: 19, Data: full("x")}, api.Write{At: 3, Data: laid(3, "new")})
}

// P8.1, how a frame is found: a dirty page that gives its frame up is written ahead; others are not.
func TestDirtyIsWritten(t *testing.T) {
	d, p := made(t, 20, 2)
	puts(t, p, 3, laid(3, "a"))
	puts(t, p, 1, laid(1, "b"))
	waits(t, d)
	touches(t, p, 5)
	waits(t, d, api.Write{At: 3, Data: laid(3, "a")})
	holds(t, p, 1, 5)
	soils(t, p, 1)
	puts(t, p, 7, laid(7, "c"))
	waits(t, d, api.Write{At: 3, Data: laid(3, "a")}, api.Write{At: 1, Data: laid(1, "b")})
	holds(t, p, 5, 7)
	soils(t, p, 7)
	gets(t, p, 3, laid(3, "a"))
	gets(t, p, 7, laid(7, "c"))
	waits(t, d, api.Write{At: 3, Data: laid(3, "a")}, api.Write{At: 1, Data: laid(1, "b")})
	soils(t, p, 7)
	frees(t, p, 3)
	gets(t, p, 1, laid(1, "b"))
	soils(t, p, 7)
}

// P8.1, how a frame is found: a page that was flushed, and one that came clean into a frame that had a dirty one, are not written again.
func TestCleanIsNotWritten(t *testing.T) {
	d, p := made(t, 20, 1)
	puts(t, p, 0, laid(0, "a"))
	wants(t, "FlushAll", p.FlushAll(), api.OK)
	first := api.Write{At: 0, Data: laid(0, "a")}
	waits(t, d, first)
	touches(t, p, 1)
	waits(t, d, first)
	puts(t, p, 2, laid(2, "b"))
	touches(t, p, 3, 4, 5)
	waits(t, d, first, api.Write{At: 2, Data: laid(2, "b")})
}

// P8.1, how a frame is found: a page that can't be written, by a Fetch or a Put of another: the disk's error, and it is still there, and dirty.
func TestCannotBeWritten(t *testing.T) {
	d, p := made(t, 20, 2)
	puts(t, p, 0, laid(0, "a"))
	puts(t, p, 1, laid(1, "b"))
	d.Fuse(0)
	for range 3 {
		fails(t, p, 2, api.ErrDown)
		fails(t, p, -1, api.ErrDown)
		wants(t, "Put", p.Put(2, laid(2, "c")), api.ErrDown)
		holds(t, p, 0, 1)
		soils(t, p, 0, 1)
		waits(t, d)
	}
	gets(t, p, 0, laid(0, "a"))
	gets(t, p, 1, laid(1, "b"))
	frees(t, p, 0)
	frees(t, p, 1)
	d.Crash(nil)
	d.Fuse(1)
	gets(t, p, 2, old(2))
	holds(t, p, 1, 2)
	soils(t, p, 1)
	waits(t, d, api.Write{At: 0, Data: laid(0, "a")})
	fails(t, p, 3, api.ErrDown)
	holds(t, p, 1, 2)
	soils(t, p, 1)
}

// P8.1, how a frame is found: behind a write that failed the hand stays at that frame, and what it passed is used no longer.
func TestHandStaysAtTheFailure(t *testing.T) {
	d, p := made(t, 20, 4)
	touches(t, p, 0, 1, 2, 3, 4)
	// 4, 1, 2, 3; the hand is at 1; only 4 was used.
	touches(t, p, 1)
	puts(t, p, 2, laid(2, "new"))
	touches(t, p, 5)
	holds(t, p, 1, 2, 4, 5)
	// 4, 1, 2, 5; 1 and 2 were passed; the hand is at 4; 4 and 5 are used.
	touches(t, p, 1)
	d.Fuse(0)
	// 4 and 1 are passed, 2 can't be written.
	fails(t, p, 6, api.ErrDown)
	holds(t, p, 1, 2, 4, 5)
	soils(t, p, 2)
	d.Crash(nil)
	// The hand is at 2, of which no use is left, though 4 and 1 have none either.
	touches(t, p, 6)
	waits(t, d, api.Write{At: 2, Data: laid(2, "new")})
	holds(t, p, 1, 4, 5, 6)
	// 4, 1, 6, 5; the hand is at 5, which is passed; 4 was passed ahead of the failure.
	touches(t, p, 7)
	holds(t, p, 1, 5, 6, 7)
	touches(t, p, 8)
	holds(t, p, 5, 6, 7, 8)
}

// P8.1, how a frame is found: behind a write that failed what is used anew is passed again, from that frame on.
func TestFailedOneUsedAnew(t *testing.T) {
	d, p := made(t, 20, 3)
	touches(t, p, 0)
	puts(t, p, 1, laid(1, "new"))
	touches(t, p, 2, 3)
	// 3, 1, 2; the hand is at 1, which is not used, and dirty.
	d.Fuse(0)
	fails(t, p, 4, api.ErrDown)
	gets(t, p, 1, laid(1, "new"))
	frees(t, p, 1)
	d.Crash(nil)
	touches(t, p, 4)
	holds(t, p, 1, 3, 4)
	waits(t, d)
	soils(t, p, 1)
}

// P8.1, how a frame is found: a dirty page that the file has been cut short of: ErrRange of the write, of whatever is fetched or put.
func TestCutOff(t *testing.T) {
	d, p := made(t, 4, 1)
	puts(t, p, 3, laid(3, "new"))
	d.Shrink(2)
	fails(t, p, 0, api.ErrRange)
	fails(t, p, 3+1, api.ErrRange)
	wants(t, "Put", p.Put(0, laid(0, "new")), api.ErrRange)
	wants(t, "FlushAll", p.FlushAll(), api.ErrRange)
	holds(t, p, 3)
	soils(t, p, 3)
	waits(t, d)
	d.Grow(4)
	gets(t, p, 0, old(0))
	waits(t, d, api.Write{At: 3, Data: laid(3, "new")})
}
