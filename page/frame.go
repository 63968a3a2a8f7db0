package page

import (
	"math"

	"umbel/api"
)

// Where the fields begin, each of them up to the next one's place.
const (
	kindPlace    = 0
	numberPlace  = 1
	genPlace     = 3
	sizePlace    = 7
	payloadPlace = 9
	sumPlace     = payloadPlace + api.Room
)

// frame is a page's bytes ahead of the sum, field by field, so that two pages are one if their frames are.
type frame struct {
	kind    uint8
	number  uint16
	gen     uint32
	size    uint16
	payload [api.Room]byte // noughts from size on
}

// frameOf has the frame of p at that number; false if one of them has no room in it.
func frameOf(p api.Page, at int) (frame, bool) {
	if p.Kind < 1 || p.Kind > math.MaxUint8 || at < 0 || at > math.MaxUint16 {
		return frame{}, false
	}
	// Gen stays below 2^31, though its four bytes have room for more.
	if p.Gen < 0 || p.Gen > math.MaxInt32 || len(p.Payload) > api.Room {
		return frame{}, false
	}
	f := frame{kind: uint8(p.Kind), number: uint16(at), gen: uint32(p.Gen), size: uint16(len(p.Payload))}
	copy(f.payload[:], p.Payload)
	return f, true
}

// frameIn has the frame that b begins with, whether or not it is one that frameOf makes; b has at least all its bytes.
func frameIn(b string) frame {
	f := frame{
		kind:   b[kindPlace],
		number: uint16(joined(b[numberPlace:genPlace])),
		gen:    joined(b[genPlace:sizePlace]),
		size:   uint16(joined(b[sizePlace:payloadPlace])),
	}
	copy(f.payload[:], b[payloadPlace:sumPlace])
	return f
}

// page has what f holds, in memory of its own.
func (f frame) page() api.Page {
	// A size that no payload has must not reach beyond the room; the frame of what is cut here is another one.
	size := min(int(f.size), api.Room)
	return api.Page{Kind: int(f.kind), Gen: int(f.gen), Payload: string(f.payload[:size])}
}

// text has the bytes of f.
func (f frame) text() string {
	out := make([]byte, 0, sumPlace)
	out = append(out, f.kind)
	out = append(out, byte(f.number>>8), byte(f.number))
	out = append(out, byte(f.gen>>24), byte(f.gen>>16), byte(f.gen>>8), byte(f.gen))
	out = append(out, byte(f.size>>8), byte(f.size))
	return string(append(out, f.payload[:]...))
}

// joined has the number whose bytes s is, the highest first; there are at most four.
func joined(s string) uint32 {
	var v uint32
	for i := range len(s) {
		v = v<<8 | uint32(s[i])
	}
	return v
}
