package disk_test

import (
	"slices"
	"testing"

	"umbel/api"
	"umbel/disk"
)

// P6.2, Crash: each sector by itself, in each choice; bits above the fourth tell nothing.
func TestSectors(t *testing.T) {
	old, next := mixed(1), mixed(2)
	for bits := range 256 {
		d := made(t, 3, full("x"), old, full("y"))
		d.Write(1, next)
		d.Crash([]uint8{uint8(bits)})
		want := []string{full("x"), torn(old, next, uint8(bits)&0xf), full("y")}
		reads(t, d, want)
		stable(t, d, want)
	}
}

// P6.2, Crash: the i-th choice is that of the i-th that waits, whatever page it is for; what is missing tells of none, what is too many is left.
func TestChoices(t *testing.T) {
	old := mixedPages(4, 0)
	places := []int{3, 0, 2, 1}
	for count := range 8 {
		d := made(t, 4, old...)
		want := slices.Clone(old)
		choice := []uint8{0x6, 0xf, 0x9, 0x5, 0xf, 0xf, 0xf}[:count]
		for i, at := range places {
			d.Write(at, mixed(40+i))
			if i < count {
				want[at] = torn(old[at], mixed(40+i), choice[i])
			}
		}
		d.Crash(choice)
		reads(t, d, want)
		stable(t, d, want)
	}
}

// P6.2, Crash: with no choice nothing that waits becomes stable; with nothing that waits nothing changes.
func TestNoChoice(t *testing.T) {
	old := mixedPages(3, 0)
	for _, choice := range [][]uint8{nil, {}, {0}, {0, 0, 0}, {0xf0, 0x10, 0x80}} {
		d := made(t, 3, old...)
		for at := range 3 {
			d.Write(at, full("a"))
		}
		d.Crash(choice)
		reads(t, d, old)
	}
	for _, choice := range [][]uint8{nil, {0xff}, {0xff, 0xff, 0xff, 0xff}} {
		d := made(t, 3, old...)
		d.Crash(choice)
		reads(t, d, old)
		none, _ := disk.New(1)
		none.Crash(choice)
		reads(t, none, nil)
	}
}

// P6.2, Crash: the same page waiting more than once: in order, sector over sector, in each choice of three.
func TestSamePageWaits(t *testing.T) {
	old := mixed(1)
	for n := range 16 * 16 * 16 {
		choice := []uint8{uint8(n & 0xf), uint8(n >> 4 & 0xf), uint8(n >> 8 & 0xf)}
		d := made(t, 2, old, full("y"))
		want := old
		for i, bits := range choice {
			d.Write(0, mixed(i+2))
			want = torn(want, mixed(i+2), bits)
		}
		d.Crash(choice)
		if !slices.Equal(d.Pages(), []string{want, full("y")}) || len(d.Waiting()) != 0 {
			t.Fatal(choice)
		}
		d.Crash(nil)
		if s, e := d.Read(0); s != want || e != api.OK {
			t.Fatal(choice, e)
		}
	}
}

// P6.2, Crash: when the disk is down it does what it does when it is up; the file keeps its length, its limit, and goes on.
func TestCrashUpAndDown(t *testing.T) {
	old := mixedPages(2, 0)
	for _, goesDown := range []bool{false, true} {
		d := made(t, 5, old...)
		d.Grow(3)
		d.Write(1, full("a"))
		d.Write(2, full("b"))
		if goesDown {
			d.Fuse(0)
			wants(t, "Grow", d.Grow(5), api.ErrDown)
		}
		d.Crash([]uint8{0x1, 0x8})
		want := []string{old[0], torn(old[1], full("a"), 0x1), torn(full("\x00"), full("b"), 0x8)}
		reads(t, d, want)
		if d.Limit() != 5 {
			t.Error(d.Limit())
		}
		wants(t, "Write", d.Write(0, full("c")), api.OK)
		want[0] = full("c")
		reads(t, d, want, api.Write{At: 0, Data: full("c")})
		wants(t, "Sync", d.Sync(), api.OK)
		wants(t, "Grow", d.Grow(5), api.OK)
		wants(t, "Shrink", d.Shrink(1), api.OK)
		stable(t, d, want[:1])
	}
}

// P6.3: what is synced survives each crash, again and again, with any choice, up and down.
func TestSyncedSurvives(t *testing.T) {
	for _, choice := range [][]uint8{nil, {0}, {0xff}, {0xff, 0xff, 0xff, 0xff}} {
		for _, goesDown := range []bool{false, true} {
			d := made(t, 4, mixedPages(2, 0)...)
			d.Grow(4)
			for at := range 4 {
				d.Write(at, mixed(60+at))
			}
			wants(t, "Sync", d.Sync(), api.OK)
			for range 3 {
				if goesDown {
					d.Fuse(0)
					wants(t, "Write", d.Write(0, full("a")), api.ErrDown)
				}
				d.Crash(choice)
				reads(t, d, mixedPages(4, 60))
			}
		}
	}
}

// P6.3: of a page that waits over what is synced, each sector is one or the other; the pages beside it, and those with no bit set, are as they were synced.
func TestSyncedUnderWaiting(t *testing.T) {
	for bits := range 16 {
		d, _ := disk.New(3)
		d.Grow(3)
		for at := range 3 {
			d.Write(at, mixed(at))
		}
		d.Sync()
		d.Write(2, full("a"))
		d.Write(0, full("b"))
		d.Crash([]uint8{0, uint8(bits)})
		reads(t, d, []string{torn(mixed(0), full("b"), uint8(bits)), mixed(1), mixed(2)})
	}
}

// spoil writes over all of l, its spare room too.
func spoil[T any](l []T, with T) {
	l = l[:cap(l)]
	for i := range l {
		l[i] = with
	}
}

// Rule 2: what From and Crash are given is not changed, its spare room included, and not kept.
func TestGivenUnchanged(t *testing.T) {
	whole := mixedPages(6, 0)
	given := whole[:3]
	d := made(t, 6, given...)
	d.Write(0, full("a"))
	d.Sync()
	d.Grow(6)
	bits := []uint8{0x3, 0xff, 0xff, 0x77}
	d.Write(1, full("b"))
	d.Write(2, full("c"))
	d.Crash(bits[:1])
	if !slices.Equal(whole, mixedPages(6, 0)) || !slices.Equal(bits, []uint8{0x3, 0xff, 0xff, 0x77}) {
		t.Fatal("what was given is another")
	}
	want := d.Pages()
	spoil(given, full("z"))
	spoil(bits, 0xf)
	reads(t, d, want)
	stable(t, d, want)
}

// Rule 2: what Pages and Waiting tell is new memory, its spare room too: changing it changes neither the disk nor another answer, and the disk does not change it.
func TestToldIsNew(t *testing.T) {
	d := made(t, 9, mixedPages(3, 0)...)
	for i := range 5 {
		d.Write(i%3, mixed(20+i))
	}
	pages, waiting := d.Pages(), d.Waiting()
	wantPages, wantWaiting := slices.Clone(pages), slices.Clone(waiting)
	one, other := d.Pages(), d.Waiting()
	spoil(one, "spoilt")
	spoil(other, api.Write{At: 77})
	reads(t, d, wantPages, wantWaiting...)
	d.Write(0, full("a"))
	d.Shrink(1)
	d.Grow(9)
	d.Sync()
	d.Write(8, full("b"))
	d.Crash([]uint8{0xf})
	if !slices.Equal(pages, wantPages) || !slices.Equal(waiting, wantWaiting) {
		t.Fatal("what was told is another")
	}
}

// Rule 2: the spare room of an answer is not that of another one, nor the disk's when it goes on.
func TestSpareRoom(t *testing.T) {
	d, _ := disk.New(20)
	for i := range 20 {
		d.Grow(i + 1)
		d.Write(i, mixed(i))
		pages, waiting := d.Pages(), d.Waiting()
		spoil(pages, "spoilt")
		spoil(waiting, api.Write{At: 77})
		if i%7 == 6 {
			d.Sync()
			spoil(waiting, api.Write{At: 78})
		}
		shows(t, d, mixedPages(i+1, 0), d.Waiting()...)
	}
	d.Sync()
	stable(t, d, mixedPages(20, 0))
}

// Rule 4: two disks share nothing, also those that are made of the same pages.
func TestDisksApart(t *testing.T) {
	pages := mixedPages(3, 0)
	one, other := made(t, 5, pages...), made(t, 5, pages...)
	third := made(t, 5, one.Pages()...)
	one.Write(0, full("a"))
	one.Sync()
	one.Write(1, full("b"))
	one.Crash([]uint8{0x5})
	one.Shrink(2)
	one.Grow(5)
	one.Fuse(0)
	one.Sync()
	for _, d := range []*disk.Disk{other, third} {
		reads(t, d, pages)
		stable(t, d, pages)
	}
}
