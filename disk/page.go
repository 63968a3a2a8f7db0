package disk

import "umbel/api"

// sectors is how many of them a page has.
const sectors = api.Size / api.Sector

// sector is the piece of a page that a crash leaves wholly written, or not at all.
type sector [api.Sector]byte

// page is a page's bytes, sector by sector.
type page [sectors]sector

// pageOf has the bytes of s, of which there are api.Size.
func pageOf(s string) page {
	var p page
	for i := range p {
		copy(p[i][:], s[i*api.Sector:])
	}
	return p
}

// text has the bytes of p, in memory of its own.
func (p page) text() string {
	out := make([]byte, 0, api.Size)
	for i := range p {
		out = append(out, p[i][:]...)
	}
	return string(out)
}

// torn has those sectors of next whose bits are set in kept, and p's own elsewhere; bits that are no sector's tell nothing.
func (p page) torn(next page, kept uint8) page {
	for i := range p {
		if kept>>i&1 == 1 {
			p[i] = next[i]
		}
	}
	return p
}
