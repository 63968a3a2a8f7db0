package pool_test

import (
	"slices"
	"testing"

	"umbel/api"
	"umbel/disk"
	"umbel/page"
	"umbel/pool"
)

// place is a frame as the chapter says it.
type place struct {
	held        bool
	at          int
	data        string
	pins        int
	dirty, used bool
}

// model is a pool as the chapter says it, over a disk of its own; a page's frame is sought one by one, and the hand goes step by step.
type model struct {
	d      *disk.Disk
	places []place
	hand   int
}

func (m *model) of(at int) *place {
	for i := range m.places {
		if m.places[i].held && m.places[i].at == at {
			return &m.places[i]
		}
	}
	return nil
}

func (m *model) find() (*place, api.Errno) {
	for i := range m.places {
		if !m.places[i].held {
			return &m.places[i], api.OK
		}
	}
	from := m.hand
	for passed := 0; passed < 2*len(m.places); passed++ {
		x := &m.places[m.hand]
		switch {
		case x.pins > 0:
		case x.used:
			x.used = false
		default:
			if x.dirty {
				if e := m.d.Write(x.at, x.data); e != api.OK {
					return nil, e
				}
			}
			*x = place{}
			m.step()
			return x, api.OK
		}
		m.step()
	}
	m.hand = from
	return nil, api.ErrPool
}

func (m *model) step() {
	m.hand++
	if m.hand == len(m.places) {
		m.hand = 0
	}
}

func (m *model) fetch(at int) (string, api.Errno) {
	x := m.of(at)
	if x == nil {
		var e api.Errno
		if x, e = m.find(); e != api.OK {
			return "", e
		}
		s, e := m.d.Read(at)
		if e != api.OK {
			return "", e
		}
		if !page.Right(s) {
			return "", api.ErrPage
		}
		*x = place{held: true, at: at, data: s}
	}
	x.pins++
	x.used = true
	return x.data, api.OK
}

func (m *model) unpin(at int) api.Errno {
	x := m.of(at)
	if x == nil || x.pins == 0 {
		return api.ErrArg
	}
	x.pins--
	return api.OK
}

func (m *model) put(at int, data string) api.Errno {
	if len(data) != api.Size || at < 0 || at >= m.d.Length() {
		return api.ErrArg
	}
	x := m.of(at)
	if x == nil {
		var e api.Errno
		if x, e = m.find(); e != api.OK {
			return e
		}
	}
	*x = place{held: true, at: at, data: data, pins: x.pins, dirty: true, used: true}
	return api.OK
}

func (m *model) flushAll() api.Errno {
	for at := range api.MaxPages {
		x := m.of(at)
		if x == nil || !x.dirty {
			continue
		}
		if e := m.d.Write(at, x.data); e != api.OK {
			return e
		}
		x.dirty = false
	}
	return api.OK
}

// told has the pages that are held, or of these the dirty ones, rising.
func (m *model) told(dirtyOnly bool) []int {
	var l []int
	for _, x := range m.places {
		if x.held && (x.dirty || !dirtyOnly) {
			l = append(l, x.at)
		}
	}
	slices.Sort(l)
	return l
}

// numbers tells numbers that follow no plain rule, the same ones of one seed.
type numbers uint32

func (v *numbers) below(n int) int {
	*v = *v*1664525 + 1013904223
	return int(*v>>8) % n
}

// data is a page's bytes, or now and then bytes that are not right, or no whole page.
func (v *numbers) data(at int) string {
	switch v.below(16) {
	case 0:
		return full(string([]byte{byte(v.below(256))}))
	case 1:
		return full("x")[:v.below(api.Size)]
	}
	return laid(max(at, 0), string([]byte{byte(v.below(256)), byte(v.below(256))}))
}

// both is a pool and its model, each over its own disk.
type both struct {
	d *disk.Disk
	p *pool.Pool
	m *model
}

// step makes one call of both pools, or of both disks.
func (b both) step(t *testing.T, v *numbers, pages int) {
	t.Helper()
	at := v.below(pages+3) - 1
	switch v.below(40) {
	default:
		got, e := b.p.Fetch(at)
		want, f := b.m.fetch(at)
		wants(t, "Fetch", e, f)
		if got != want {
			t.Fatal("Fetch: other bytes")
		}
	case 16, 17, 18, 19, 20, 21, 22, 23, 24, 25, 26, 27:
		wants(t, "Unpin", b.p.Unpin(at), b.m.unpin(at))
	case 28, 29, 30, 31, 32, 33:
		s := v.data(at)
		wants(t, "Put", b.p.Put(at, s), b.m.put(at, s))
	case 34:
		wants(t, "FlushAll", b.p.FlushAll(), b.m.flushAll())
	case 35:
		for _, x := range slices.Clone(b.m.places) {
			for range x.pins {
				wants(t, "Unpin", b.p.Unpin(x.at), b.m.unpin(x.at))
			}
		}
	case 36:
		s, n, fuse, choice := v.data(at), v.below(pages+1), v.below(8)-2, uint8(v.below(16))
		what := v.below(6)
		for _, d := range []*disk.Disk{b.d, b.m.d} {
			disturb(d, what, at, s, n, fuse, choice)
		}
	case 37, 38:
		b.d.Crash(nil)
		b.m.d.Crash(nil)
	case 39:
		b.d.Grow(pages)
		b.m.d.Grow(pages)
	}
}

// disturb does something to a disk that a pool has.
func disturb(d *disk.Disk, what, at int, data string, n, fuse int, choice uint8) {
	switch what {
	case 0:
		d.Write(at, data)
	case 1:
		d.Sync()
	case 2:
		d.Shrink(n)
	case 3, 4:
		d.Fuse(fuse)
	case 5:
		d.Crash([]uint8{choice, choice})
	}
}

// P8.1, P8.2, P8.3: whatever is called, in whatever order, whatever becomes of the disk, the pool is as the model says.
func TestModel(t *testing.T) {
	for seed := range 200 {
		v := numbers(seed)
		frames, pages := 1+seed%6, 2+seed%11
		d, p := made(t, pages, frames)
		other, _ := made(t, pages, 1)
		b := both{d: d, p: p, m: &model{d: other, places: make([]place, frames)}}
		for range 600 {
			b.step(t, &v, pages)
			holds(t, p, b.m.told(false)...)
			soils(t, p, b.m.told(true)...)
			waits(t, d, other.Waiting()...)
			if !slices.Equal(d.Pages(), other.Pages()) {
				t.Fatal("the disk has other pages")
			}
		}
	}
}
