package disk_test

import (
	"math"
	"slices"
	"testing"

	"umbel/api"
	"umbel/disk"
)

// action is one that a disk of three pages, with room for four, takes, and what it leaves of the pages and of what waits.
type action struct {
	name    string
	do      func(d *disk.Disk) api.Errno
	pages   func(old []string) []string
	waiting func(old []api.Write) []api.Write
}

// actions has each kind, those that change nothing too.
func actions() []action {
	same := func(old []string) []string { return old }
	waits := func(old []api.Write) []api.Write { return old }
	none := func([]api.Write) []api.Write { return nil }
	added := func(old []api.Write) []api.Write {
		return append(slices.Clone(old), api.Write{At: 0, Data: full("w")})
	}
	return []action{
		{"Write", func(d *disk.Disk) api.Errno { return d.Write(0, full("w")) }, func(old []string) []string { return append([]string{full("w")}, old[1:]...) }, added},
		{"Sync", func(d *disk.Disk) api.Errno { return d.Sync() }, same, none},
		{"Grow to more", func(d *disk.Disk) api.Errno { return d.Grow(4) }, func(old []string) []string { return append(slices.Clone(old), full("\x00")) }, waits},
		{"Grow to the length", func(d *disk.Disk) api.Errno { return d.Grow(3) }, same, waits},
		{"Grow to nothing", func(d *disk.Disk) api.Errno { return d.Grow(0) }, same, waits},
		{"Shrink", func(d *disk.Disk) api.Errno { return d.Shrink(2) }, func(old []string) []string { return old[:2] }, waits},
		{"Shrink to the length", func(d *disk.Disk) api.Errno { return d.Shrink(3) }, same, waits},
	}
}

// withOneWaiting is a disk of three pages, one of which waits.
func withOneWaiting(t *testing.T) (*disk.Disk, []string, []api.Write) {
	t.Helper()
	pages := mixedPages(3, 7)
	d := made(t, 4, pages...)
	wants(t, "Write", d.Write(1, full("a")), api.OK)
	pages[1] = full("a")
	return d, pages, []api.Write{{At: 1, Data: full("a")}}
}

// noActions makes calls that are none, some of them refused for their arguments.
func noActions(t *testing.T, d *disk.Disk) {
	t.Helper()
	for _, at := range outside(d.Length()) {
		wants(t, "Write outside", d.Write(at, full("x")), api.ErrRange)
		wants(t, "Write of no whole page", d.Write(at, "x"), api.ErrArg)
		if _, e := d.Read(at); e != api.ErrRange {
			t.Fatal("Read outside:", e)
		}
	}
	wants(t, "Grow below 0", d.Grow(-1), api.ErrArg)
	wants(t, "Grow above Cap", d.Grow(d.Limit()+1), api.ErrFull)
	wants(t, "Shrink below 0", d.Shrink(-1), api.ErrRange)
	wants(t, "Shrink above the length", d.Shrink(d.Length()+1), api.ErrRange)
	shows(t, d, d.Pages(), d.Waiting()...)
	for at := range d.Length() {
		if _, e := d.Read(at); e != api.OK {
			t.Fatal("Read:", e)
		}
	}
}

// P6.2, Fuse: each kind of action, also one that changes nothing, is done while there is a fuse, and uses it up by one.
func TestEachActionCounts(t *testing.T) {
	for _, a := range actions() {
		d, pages, waiting := withOneWaiting(t)
		d.Fuse(1)
		noActions(t, d)
		wants(t, a.name, a.do(d), api.OK)
		noActions(t, d)
		now, left := a.pages(pages), a.waiting(waiting)
		reads(t, d, now, left...)
		wants(t, "Sync behind "+a.name, d.Sync(), api.ErrDown)
		isDown(t, d, now, left...)
	}
}

// P6.2, Fuse: each kind of action without a fuse left is not done, and takes the disk down; refused ones and reads do not.
func TestEachActionGoesDown(t *testing.T) {
	for _, a := range actions() {
		d, pages, waiting := withOneWaiting(t)
		d.Fuse(0)
		noActions(t, d)
		reads(t, d, pages, waiting...)
		wants(t, a.name, a.do(d), api.ErrDown)
		isDown(t, d, pages, waiting...)
		wants(t, a.name, a.do(d), api.ErrDown)
		isDown(t, d, pages, waiting...)
	}
}

// P6.2, Fuse: just n are done, and not the one behind them.
func TestFuseCounts(t *testing.T) {
	for n := range 20 {
		d := made(t, 2, full("a"))
		waiting := []api.Write{}
		d.Fuse(n)
		for i := range n {
			noActions(t, d)
			wants(t, "Write", d.Write(0, mixed(i)), api.OK)
			waiting = append(waiting, api.Write{At: 0, Data: mixed(i)})
		}
		pages := d.Pages()
		wants(t, "Write behind the last", d.Write(0, full("z")), api.ErrDown)
		isDown(t, d, pages, waiting...)
	}
}

// P6.2, Fuse: below 0, and at first, there is no end; nor, in any test's time, of the greatest int.
func TestNoEnd(t *testing.T) {
	first := made(t, 2, full("a"))
	fresh, _ := disk.New(2)
	fresh.Grow(1)
	disks := []*disk.Disk{first, fresh}
	for _, n := range []int{-1, -2, math.MinInt, math.MaxInt} {
		d := made(t, 2, full("a"))
		d.Fuse(1)
		d.Fuse(n)
		disks = append(disks, d)
	}
	for i, d := range disks {
		for range 300 {
			if d.Write(0, full("b")) != api.OK || d.Sync() != api.OK || d.Grow(2) != api.OK || d.Shrink(1) != api.OK {
				t.Fatal(i)
			}
		}
	}
}

// P6.2, Fuse: anew ahead of its end the new one counts, by itself.
func TestFuseAnew(t *testing.T) {
	for _, first := range []int{0, 1, 3, 9, -1} {
		for _, done := range []int{0, 1} {
			for _, next := range []int{0, 1, 2, 5} {
				d := made(t, 1, full("a"))
				d.Fuse(first)
				if first != 0 && done == 1 {
					wants(t, "Sync", d.Sync(), api.OK)
				}
				d.Fuse(next)
				for range next {
					wants(t, "Sync", d.Sync(), api.OK)
				}
				wants(t, "Sync", d.Sync(), api.ErrDown)
			}
		}
	}
}

// P6.2, Fuse: when the disk is down it does nothing: just a Crash brings the disk up, and leaves no fuse.
func TestFuseWhenDown(t *testing.T) {
	for _, n := range []int{0, 1, 2, -1, math.MinInt, math.MaxInt} {
		d := made(t, 2, full("a"))
		d.Write(0, full("b"))
		d.Fuse(0)
		wants(t, "Sync", d.Sync(), api.ErrDown)
		d.Fuse(n)
		isDown(t, d, []string{full("b")}, api.Write{At: 0, Data: full("b")})
		stable(t, d, []string{full("a")})
		for range 5 {
			wants(t, "Sync", d.Sync(), api.OK)
		}
	}
}

// P6.2, Crash: brings the disk up, without a fuse, whether it was down or had a fuse left; a new fuse counts then.
func TestCrashTakesTheFuse(t *testing.T) {
	for _, n := range []int{0, 1, 2, 3, 10, -1} {
		d := made(t, 3, full("a"))
		d.Fuse(n)
		d.Write(0, full("b"))
		d.Write(0, full("c"))
		d.Crash(nil)
		reads(t, d, []string{full("a")})
		for range 20 {
			wants(t, "Write", d.Write(0, full("d")), api.OK)
		}
		wants(t, "Sync", d.Sync(), api.OK)
		wants(t, "Grow", d.Grow(3), api.OK)
		wants(t, "Shrink", d.Shrink(1), api.OK)
		reads(t, d, []string{full("d")})
		d.Fuse(1)
		wants(t, "Sync", d.Sync(), api.OK)
		wants(t, "Sync", d.Sync(), api.ErrDown)
		isDown(t, d, []string{full("d")})
		stable(t, d, []string{full("d")})
	}
}

// P6.2: the Sync that goes down makes nothing stable.
func TestSyncGoesDown(t *testing.T) {
	old := mixedPages(2, 0)
	d := made(t, 2, old...)
	d.Fuse(2)
	d.Write(0, full("a"))
	d.Write(1, full("b"))
	wants(t, "Sync", d.Sync(), api.ErrDown)
	stable(t, d, old)
}
