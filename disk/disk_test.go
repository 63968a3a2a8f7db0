package disk_test

import (
	"math"
	"slices"
	"strings"
	"testing"

	"umbel/api"
	"umbel/disk"
)

// full is a page of one byte only.
func full(c string) string { return strings.Repeat(c, api.Size) }

// mixed is a page whose bytes follow no plain rule, and are others for each seed.
func mixed(seed int) string {
	b := make([]byte, api.Size)
	v := uint32(seed)*2654435761 + 1
	for i := range b {
		v = v*1664525 + 1013904223
		b[i] = byte(v >> 24)
	}
	return string(b)
}

// mixedPages is so many of them, of seeds from some one on.
func mixedPages(count, from int) []string {
	l := make([]string, count)
	for i := range l {
		l[i] = mixed(from + i)
	}
	return l
}

// torn is the page old with those sectors of next whose bits are set.
func torn(old, next string, bits uint8) string {
	out := ""
	for i := 0; i < api.Size; i += api.Sector {
		from := old
		if bits>>(i/api.Sector)&1 == 1 {
			from = next
		}
		out += from[i : i+api.Sector]
	}
	return out
}

// made is a disk of these pages.
func made(t *testing.T, limit int, pages ...string) *disk.Disk {
	t.Helper()
	d, ok := disk.From(pages, limit)
	if !ok || d == nil {
		t.Fatalf("From %d pages, limit %d: %v", len(pages), limit, ok)
	}
	return d
}

// wants checks an error's number.
func wants(t *testing.T, what string, got, want api.Errno) {
	t.Helper()
	if got != want {
		t.Fatalf("%s: %d, want %d", what, got, want)
	}
}

// shows checks what is told of a disk by the calls that change nothing and need no disk that is up; twice, since they must leave it as it was.
func shows(t *testing.T, d *disk.Disk, pages []string, waiting ...api.Write) {
	t.Helper()
	for range 2 {
		if got := d.Length(); got != len(pages) {
			t.Fatalf("Length: %d, want %d", got, len(pages))
		}
		if !slices.Equal(d.Pages(), pages) {
			t.Fatalf("Pages: not those of %d pages", len(pages))
		}
		if got := d.Waiting(); !slices.Equal(got, waiting) {
			t.Fatalf("Waiting: %d, not the %d that should", len(got), len(waiting))
		}
	}
}

// reads checks shows, and that each page is read so, and none beside them.
func reads(t *testing.T, d *disk.Disk, pages []string, waiting ...api.Write) {
	t.Helper()
	shows(t, d, pages, waiting...)
	for at, want := range pages {
		if got, e := d.Read(at); got != want || e != api.OK {
			t.Fatalf("Read(%d): %d, not the page's bytes", at, e)
		}
	}
	for _, at := range outside(len(pages)) {
		if got, e := d.Read(at); got != "" || e != api.ErrRange {
			t.Fatalf("Read(%d) of %d pages: %d", at, len(pages), e)
		}
	}
}

// isDown checks that the disk is down, and shows its pages and what waits all the same.
func isDown(t *testing.T, d *disk.Disk, pages []string, waiting ...api.Write) {
	t.Helper()
	for range 2 {
		for _, at := range []int{0, -1, len(pages), math.MaxInt} {
			s, e := d.Read(at)
			wants(t, "Read, down", e, api.ErrDown)
			if s != "" {
				t.Fatal("Read, down: bytes")
			}
			wants(t, "Write, down", d.Write(at, full("w")), api.ErrDown)
			wants(t, "Write of nothing, down", d.Write(at, ""), api.ErrDown)
			wants(t, "Grow, down", d.Grow(at), api.ErrDown)
			wants(t, "Shrink, down", d.Shrink(at), api.ErrDown)
		}
		wants(t, "Sync, down", d.Sync(), api.ErrDown)
		shows(t, d, pages, waiting...)
	}
}

// outside has places that a file of so many pages has not.
func outside(length int) []int {
	return []int{-1, math.MinInt, length, length + 1, api.MaxPages, 1 << 32, 1<<32 + 1, math.MaxInt}
}

// stable checks that just these pages are left by a crash that keeps nothing of what waits.
func stable(t *testing.T, d *disk.Disk, pages []string) {
	t.Helper()
	d.Crash(nil)
	reads(t, d, pages)
}

// Example 1: Fuse(0), Sync: ErrDown.
func TestExample(t *testing.T) {
	d, _ := disk.New(1)
	d.Fuse(0)
	wants(t, "Sync", d.Sync(), api.ErrDown)
}

// P6.1, New: no pages, nothing that waits, room for as many as it says.
func TestNew(t *testing.T) {
	for _, limit := range []int{1, 2, 3, 4, 100, api.MaxPages - 1, api.MaxPages} {
		d, ok := disk.New(limit)
		if !ok || d == nil || d.Limit() != limit {
			t.Fatal(limit, ok)
		}
		reads(t, d, nil)
		wants(t, "Write", d.Write(0, full("a")), api.ErrRange)
		wants(t, "Sync", d.Sync(), api.OK)
		stable(t, d, nil)
		wants(t, "Grow", d.Grow(limit), api.OK)
		reads(t, d, slices.Repeat([]string{full("\x00")}, limit))
	}
}

// P6.1, New and From: false for a limit below 1 or above MaxPages.
func TestWrongLimits(t *testing.T) {
	for _, limit := range []int{0, -1, math.MinInt, api.MaxPages + 1, 1<<32 + 1, math.MaxInt} {
		if d, ok := disk.New(limit); ok || d != nil {
			t.Error("New", limit)
		}
		for _, pages := range [][]string{nil, {}, {full("a")}, mixedPages(api.MaxPages, 0), mixedPages(api.MaxPages+1, 0)} {
			if d, ok := disk.From(pages, limit); ok || d != nil {
				t.Error("From", limit, len(pages))
			}
		}
	}
}

// P6.1, From: its pages are there, and are stable.
func TestFrom(t *testing.T) {
	for _, limit := range []int{1, 2, 5, api.MaxPages} {
		for _, count := range []int{0, 1, limit / 2, limit - 1, limit} {
			pages := mixedPages(count, limit)
			d := made(t, limit, pages...)
			if d.Limit() != limit {
				t.Error(limit, d.Limit())
			}
			reads(t, d, pages)
			stable(t, d, pages)
			wants(t, "Sync", d.Sync(), api.OK)
			reads(t, d, pages)
		}
	}
	if d, ok := disk.From([]string{}, 1); !ok || d.Length() != 0 {
		t.Error("an empty list")
	}
}

// P6.1, From: false, if one has not Size bytes, wherever it stands, or if there are more than the limit.
func TestFromWrong(t *testing.T) {
	for _, wrong := range []string{"", "a", full("a")[1:], full("a") + "a", full("a") + full("a")} {
		for at := range 3 {
			pages := mixedPages(3, 0)
			pages[at] = wrong
			if d, ok := disk.From(pages, 3); ok || d != nil {
				t.Error(at, len(wrong))
			}
		}
	}
	for _, limit := range []int{1, 2, api.MaxPages} {
		for _, more := range []int{1, 2, 50} {
			if d, ok := disk.From(mixedPages(limit+more, 0), limit); ok || d != nil {
				t.Error(limit, more)
			}
		}
	}
}

// P6.1, Write and Read: what was written last is read, at the first page, the last one and between; the others stay.
func TestWriteRead(t *testing.T) {
	for _, count := range []int{1, 2, 3, api.MaxPages} {
		for _, at := range []int{0, count / 2, count - 1} {
			pages := mixedPages(count, 0)
			d := made(t, count, pages...)
			wants(t, "Write", d.Write(at, full("a")), api.OK)
			now := slices.Clone(pages)
			now[at] = full("a")
			reads(t, d, now, api.Write{At: at, Data: full("a")})
			stable(t, d, pages)
		}
	}
}

// P6.1, Write: a page that is written again ahead of a Sync waits again, behind all that waits; the last one is read.
func TestWrittenTwice(t *testing.T) {
	d := made(t, 4, mixedPages(3, 0)...)
	pages := d.Pages()
	waiting := []api.Write{}
	for i, at := range []int{1, 2, 1, 1, 0, 2, 1} {
		data := mixed(100 + i)
		if i == 3 {
			data = waiting[2].Data // the same bytes once more wait once more
		}
		wants(t, "Write", d.Write(at, data), api.OK)
		pages[at] = data
		waiting = append(waiting, api.Write{At: at, Data: data})
		reads(t, d, pages, waiting...)
	}
	wants(t, "Sync", d.Sync(), api.OK)
	reads(t, d, pages)
	stable(t, d, pages)
}

// P6.1, Write: what is wrong is refused, and nothing waits; data goes ahead of the place.
func TestWriteRefused(t *testing.T) {
	pages := mixedPages(3, 0)
	d := made(t, 5, pages...)
	wants(t, "Write", d.Write(1, pages[1]), api.OK)
	for _, wrong := range []string{"", "a", full("a")[1:], full("a") + "a", full("a") + full("a")} {
		for _, at := range append(outside(3), 0, 1, 2) {
			wants(t, "Write of no whole page", d.Write(at, wrong), api.ErrArg)
		}
	}
	for _, at := range outside(3) {
		wants(t, "Write outside", d.Write(at, full("a")), api.ErrRange)
	}
	reads(t, d, pages, api.Write{At: 1, Data: pages[1]})
}

// P6.1, Sync: with nothing that waits nothing changes; else all of it becomes stable, and what is written later waits anew.
func TestSync(t *testing.T) {
	pages := mixedPages(3, 0)
	d := made(t, 3, pages...)
	for range 2 {
		wants(t, "Sync", d.Sync(), api.OK)
		reads(t, d, pages)
	}
	for i := range 3 {
		d.Write(i, full("a"))
		d.Write(0, mixed(i))
		wants(t, "Sync", d.Sync(), api.OK)
		pages[i], pages[0] = full("a"), mixed(i)
		reads(t, d, pages)
		wants(t, "Write", d.Write(2, full("z")), api.OK)
		shows(t, d, []string{pages[0], pages[1], full("z")}, api.Write{At: 2, Data: full("z")})
		stable(t, d, pages)
	}
}

// P6.1, Grow: to the length and below it nothing changes; above it there are pages of bytes 0, stable at once.
func TestGrow(t *testing.T) {
	pages := mixedPages(3, 0)
	zero := full("\x00")
	d := made(t, 6, pages...)
	for n := range 4 {
		wants(t, "Grow", d.Grow(n), api.OK)
		reads(t, d, pages)
	}
	d.Write(2, full("a"))
	wants(t, "Grow", d.Grow(4), api.OK)
	reads(t, d, []string{pages[0], pages[1], full("a"), zero}, api.Write{At: 2, Data: full("a")})
	wants(t, "Grow", d.Grow(6), api.OK)
	wants(t, "Write", d.Write(5, full("b")), api.OK)
	reads(t, d, []string{pages[0], pages[1], full("a"), zero, zero, full("b")}, api.Write{At: 2, Data: full("a")}, api.Write{At: 5, Data: full("b")})
	stable(t, d, append(pages, zero, zero, zero))
}

// P6.1, Grow: below 0 and above Cap it is refused, and nothing changes.
func TestGrowRefused(t *testing.T) {
	for _, limit := range []int{3, 4, api.MaxPages} {
		pages := mixedPages(3, 0)
		d := made(t, limit, pages...)
		for _, n := range []int{-1, -3, math.MinInt} {
			wants(t, "Grow below 0", d.Grow(n), api.ErrArg)
		}
		for _, n := range []int{limit + 1, limit + 2, api.MaxPages + 1, 1<<32 + 3, math.MaxInt} {
			wants(t, "Grow above Cap", d.Grow(n), api.ErrFull)
		}
		reads(t, d, pages)
		wants(t, "Grow", d.Grow(limit), api.OK)
		if d.Length() != limit {
			t.Error(d.Length())
		}
	}
}

// P6.1, Shrink: to 0, to the length and between: the file is cut at once, with what waits for pages beyond.
func TestShrink(t *testing.T) {
	for n := range 6 {
		old := mixedPages(5, 0)
		d := made(t, 9, old...)
		pages, kept := slices.Clone(old), []api.Write{}
		for i, at := range []int{4, 0, 3, 1, 2, 4, 3, 0} {
			w := api.Write{At: at, Data: mixed(50 + i)}
			wants(t, "Write", d.Write(w.At, w.Data), api.OK)
			pages[at] = w.Data
			if at < n {
				kept = append(kept, w)
			}
		}
		wants(t, "Shrink", d.Shrink(n), api.OK)
		if d.Limit() != 9 {
			t.Error("the limit is another")
		}
		reads(t, d, pages[:n], kept...)
		stable(t, d, old[:n])
	}
}

// P6.1, Shrink: what was dropped is gone for good: what was kept is synced, and a crash counts it alone.
func TestShrinkThenSyncOrCrash(t *testing.T) {
	old := mixedPages(3, 0)
	for _, synced := range []bool{false, true} {
		d := made(t, 3, old...)
		d.Write(2, full("a"))
		d.Write(0, full("b"))
		d.Write(2, full("c"))
		d.Write(1, full("d"))
		wants(t, "Shrink", d.Shrink(2), api.OK)
		wants(t, "Grow", d.Grow(3), api.OK)
		zero := full("\x00")
		reads(t, d, []string{full("b"), full("d"), zero}, api.Write{At: 0, Data: full("b")}, api.Write{At: 1, Data: full("d")})
		if synced {
			wants(t, "Sync", d.Sync(), api.OK)
			stable(t, d, []string{full("b"), full("d"), zero})
			continue
		}
		d.Crash([]uint8{0x3, 0xc, 0xf, 0xf})
		reads(t, d, []string{torn(old[0], full("b"), 0x3), torn(old[1], full("d"), 0xc), zero})
	}
}

// P6.1, Grow behind a Shrink: bytes 0, whatever the pages held, stable or waiting.
func TestGrowBehindShrink(t *testing.T) {
	for n := range 4 {
		old := mixedPages(3, 0)
		d := made(t, 4, old...)
		d.Write(2, full("a"))
		d.Sync()
		d.Write(1, full("b"))
		d.Write(2, full("c"))
		pages := []string{old[0], full("b"), full("c")}
		wants(t, "Shrink", d.Shrink(n), api.OK)
		wants(t, "Grow", d.Grow(4), api.OK)
		want := append(slices.Clone(pages[:n]), slices.Repeat([]string{full("\x00")}, 4-n)...)
		shows(t, d, want, d.Waiting()...)
		if n >= 2 {
			want[1] = old[1]
		}
		if n == 3 {
			want[2] = full("a")
		}
		stable(t, d, want)
	}
}

// P6.1, Shrink: below 0 and above the length it is refused, and nothing changes; the limit does not count.
func TestShrinkRefused(t *testing.T) {
	for _, count := range []int{0, 1, 3} {
		pages := mixedPages(count, 0)
		d := made(t, 9, pages...)
		for _, n := range []int{-1, math.MinInt, count + 1, 9, 10, 1 << 32, math.MaxInt} {
			wants(t, "Shrink", d.Shrink(n), api.ErrRange)
		}
		reads(t, d, pages)
	}
}

// P6.2, of nil: ErrArg, whatever else is wrong, and nothing.
func TestNil(t *testing.T) {
	var d *disk.Disk
	for range 2 {
		for _, n := range []int{0, 1, -1, math.MinInt, math.MaxInt} {
			s, e := d.Read(n)
			wants(t, "Read", e, api.ErrArg)
			wants(t, "Write", d.Write(n, full("a")), api.ErrArg)
			wants(t, "Write of nothing", d.Write(n, ""), api.ErrArg)
			wants(t, "Grow", d.Grow(n), api.ErrArg)
			wants(t, "Shrink", d.Shrink(n), api.ErrArg)
			d.Fuse(n)
			wants(t, "Sync", d.Sync(), api.ErrArg)
			if s != "" || d.Length() != 0 || d.Limit() != 0 || len(d.Pages()) != 0 || len(d.Waiting()) != 0 {
				t.Error("something of nothing")
			}
		}
		d.Crash(nil)
		d.Crash([]uint8{0xff})
	}
}
