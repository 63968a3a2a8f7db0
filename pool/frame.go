package pool

import (
	"slices"

	"umbel/api"
	"umbel/page"
)

// frame is a page's place; its zero value is empty.
type frame struct {
	at    int
	data  string // api.Size bytes, or none: the frame is empty
	pins  int
	dirty bool // the disk has not been told these bytes
	used  bool // since the hand last passed here
}

// read brings a page from the disk into a frame. The frame is found first: what had it is gone also where the page can't be read.
func (p *Pool) read(at int) (int, api.Errno) {
	i, e := p.find()
	if e != api.OK {
		return 0, e
	}
	data, e := p.disk.Read(at)
	if e != api.OK {
		return 0, e
	}
	if !page.Right(data) {
		return 0, api.ErrPage
	}
	p.frames[i] = frame{at: at, data: data}
	p.places[at] = i
	return i, api.OK
}

// find tells an empty frame: the first that is, else one that is emptied for it.
func (p *Pool) find() (int, api.Errno) {
	if i := slices.IndexFunc(p.frames, func(f frame) bool { return f.data == "" }); i >= 0 {
		return i, api.OK
	}
	i, ok := p.choose()
	if !ok {
		return 0, api.ErrPool
	}
	// Ahead of the write: if the page can't be written, the hand has come this far all the same.
	p.hand = i
	if e := p.vacate(i); e != api.OK {
		return 0, e
	}
	p.hand = (i + 1) % len(p.frames)
	return i, api.OK
}

// choose tells the frame that is given up, from the hand on; false, if none is without pins. Two rounds are enough: the first one takes all use away.
func (p *Pool) choose() (int, bool) {
	for step := range 2 * len(p.frames) {
		i := (p.hand + step) % len(p.frames)
		f := &p.frames[i]
		if f.pins > 0 {
			continue
		}
		if !f.used {
			return i, true
		}
		f.used = false
	}
	return 0, false
}

// vacate empties a frame; its page goes to the disk first, if it is dirty.
func (p *Pool) vacate(i int) api.Errno {
	if p.frames[i].dirty {
		if e := p.write(i); e != api.OK {
			return e
		}
	}
	delete(p.places, p.frames[i].at)
	p.frames[i] = frame{}
	return api.OK
}

// write writes a frame's page to the disk, which then has it as the frame does.
func (p *Pool) write(i int) api.Errno {
	f := &p.frames[i]
	if e := p.disk.Write(f.at, f.data); e != api.OK {
		return e
	}
	f.dirty = false
	return api.OK
}
