package disk_test

import (
	"slices"
	"testing"

	"umbel/api"
	"umbel/disk"
)

// model is a disk as the chapter says it, in plain lists of texts.
type model struct {
	limit   int
	stable  []string
	waiting []api.Write
	fuse    int
	down    bool
}

func (m *model) seen() []string {
	l := slices.Clone(m.stable)
	for _, w := range m.waiting {
		l[w.At] = w.Data
	}
	return l
}

// act does f, unless e refuses it or the fuse is at its end.
func (m *model) act(e api.Errno, f func()) api.Errno {
	switch {
	case m.down:
		return api.ErrDown
	case e != api.OK:
		return e
	case m.fuse == 0:
		m.down = true
		return api.ErrDown
	}
	if m.fuse > 0 {
		m.fuse--
	}
	f()
	return api.OK
}

func (m *model) write(at int, data string) api.Errno {
	e := api.OK
	if len(data) != api.Size {
		e = api.ErrArg
	} else if at < 0 || at >= len(m.stable) {
		e = api.ErrRange
	}
	return m.act(e, func() { m.waiting = append(m.waiting, api.Write{At: at, Data: data}) })
}

func (m *model) sync() api.Errno {
	return m.act(api.OK, func() { m.stable, m.waiting = m.seen(), nil })
}

func (m *model) grow(n int) api.Errno {
	e := api.OK
	if n < 0 {
		e = api.ErrArg
	} else if n > m.limit {
		e = api.ErrFull
	}
	return m.act(e, func() {
		for len(m.stable) < n {
			m.stable = append(m.stable, full("\x00"))
		}
	})
}

func (m *model) shrink(n int) api.Errno {
	e := api.OK
	if n < 0 || n > len(m.stable) {
		e = api.ErrRange
	}
	return m.act(e, func() {
		m.stable = slices.Clone(m.stable[:n])
		m.waiting = slices.DeleteFunc(m.waiting, func(w api.Write) bool { return w.At >= n })
	})
}

func (m *model) setFuse(n int) {
	if !m.down {
		m.fuse = n
	}
}

func (m *model) crash(choice []uint8) {
	for i, w := range m.waiting {
		if i < len(choice) {
			m.stable[w.At] = torn(m.stable[w.At], w.Data, choice[i])
		}
	}
	m.waiting, m.fuse, m.down = nil, -1, false
}

// numbers tells numbers that follow no plain rule, the same ones of one seed.
type numbers uint32

func (v *numbers) below(n int) int {
	*v = *v*1664525 + 1013904223
	return int(*v>>8) % n
}

func (v *numbers) choice() []uint8 {
	l := make([]uint8, v.below(6))
	for i := range l {
		l[i] = uint8(v.below(256))
	}
	return l
}

// data is a page, or now and then a text that is none.
func (v *numbers) data() string {
	s := mixed(v.below(1000))
	if v.below(12) == 0 {
		return s[:v.below(api.Size)]
	}
	return s
}

// step makes one call of both, and checks what they answer.
func step(t *testing.T, d *disk.Disk, m *model, v *numbers) {
	t.Helper()
	n := v.below(m.limit+4) - 2
	switch v.below(12) {
	case 0, 1, 2, 3, 4:
		s := v.data()
		wants(t, "Write", d.Write(n, s), m.write(n, s))
	case 5:
		wants(t, "Sync", d.Sync(), m.sync())
	case 6, 7:
		wants(t, "Grow", d.Grow(n), m.grow(n))
	case 8:
		wants(t, "Shrink", d.Shrink(n), m.shrink(n))
	case 9:
		d.Fuse(3 * n)
		m.setFuse(3 * n)
	case 10:
		l := v.choice()
		d.Crash(l)
		m.crash(l)
	case 11:
		s, e := d.Read(n)
		want := ""
		f := m.readError(n)
		if f == api.OK {
			want = m.seen()[n]
		}
		wants(t, "Read", e, f)
		if s != want {
			t.Fatal("Read: other bytes")
		}
	}
}

func (m *model) readError(at int) api.Errno {
	if m.down {
		return api.ErrDown
	}
	if at < 0 || at >= len(m.stable) {
		return api.ErrRange
	}
	return api.OK
}

// P6.1, P6.2, P6.3: whatever is called, in whatever order, the disk is as the model says.
func TestModel(t *testing.T) {
	for seed := range 60 {
		v := numbers(seed)
		limit := 1 + seed%7
		pages := mixedPages(v.below(limit+1), seed)
		d := made(t, limit, pages...)
		m := &model{limit: limit, stable: slices.Clone(pages), fuse: -1}
		for range 500 {
			step(t, d, m, &v)
			if d.Limit() != limit {
				t.Fatal("Limit:", d.Limit())
			}
			shows(t, d, m.seen(), m.waiting...)
		}
		d.Crash(nil)
		m.crash(nil)
		reads(t, d, m.stable)
	}
}
