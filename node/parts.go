package node

import (
	"strings"

	"umbel/api"
	"umbel/nibble"
)

const (
	noMark  = "\x00"
	hasMark = "\x01"
)

// parts is an Item's text in pieces, in their order, so that two texts can be held against each other piece by piece. A piece that the Item's kind has not is empty.
type parts struct {
	kind   string
	path   string // as nibble.Pack tells it
	mask   string
	has    string
	size   string // how many bytes value has
	value  string
	hashes [16]string
	rest   string // what stands behind the text: no Item has any
}

// partsOf has the parts of i; false, if there may be no such Item.
func partsOf(i api.Item) (parts, bool) {
	if !Good(i) {
		return parts{}, false
	}
	p := parts{kind: oneByte(i.Kind)}
	if i.Kind == api.Branch {
		p.mask = oneByte(i.Mask>>8) + oneByte(i.Mask)
		p.has = noMark
		if i.Has {
			p.has = hasMark
		}
	} else {
		// What is Good has a Pack.
		p.path, _ = nibble.Pack(i.Path)
	}
	if i.Has {
		p.size = oneByte(len(i.Value))
		p.value = i.Value
	}
	copy(p.hashes[:], i.Hashes)
	return p, true
}

// partsIn has the pieces of s as its bytes tell them, whether or not they are an Item's: where s is cut short, they are too.
func partsIn(s string) parts {
	var p parts
	p.kind, s = cut(s, 1)
	switch number(p.kind) {
	case api.Leaf:
		p.path, s = cut(s, packSize(s))
		s = p.cutValue(s)
	case api.Ext:
		p.path, s = cut(s, packSize(s))
		p.hashes[0], s = cut(s, api.HashSize)
	case api.Branch:
		p.mask, s = cut(s, 2)
		p.has, s = cut(s, 1)
		if p.has == hasMark {
			s = p.cutValue(s)
		}
		for at := range childrenOf(number(p.mask)) {
			p.hashes[at], s = cut(s, api.HashSize)
		}
	}
	p.rest = s
	return p
}

// cutValue takes a value and its size off s, and has what stands behind them.
func (p *parts) cutValue(s string) string {
	p.size, s = cut(s, 1)
	p.value, s = cut(s, number(p.size))
	return s
}

// text has the pieces that an Item has, behind one another.
func (p parts) text() string {
	return p.kind + p.path + p.mask + p.has + p.size + p.value + strings.Join(p.hashes[:], "")
}

// item has what the parts tell, in memory of its own.
func (p parts) item() api.Item {
	i := api.Item{Kind: number(p.kind), Value: strings.Clone(p.value)}
	i.Path, _, _ = nibble.Unpack(p.path)
	switch i.Kind {
	case api.Leaf:
		i.Has = true
	case api.Ext:
		i.Mask = 1
	case api.Branch:
		i.Has = p.has == hasMark
		i.Mask = number(p.mask)
	}
	for at := range childrenOf(i.Mask) {
		i.Hashes = append(i.Hashes, strings.Clone(p.hashes[at]))
	}
	return i
}

// packSize has how many bytes the nibbles have that s begins with; 0, if it begins with none.
func packSize(s string) int {
	_, used, _ := nibble.Unpack(s)
	return used
}

// cut has the first bytes of s, fewer where s has no more, and those behind them.
func cut(s string, count int) (first, rest string) {
	count = min(count, len(s))
	return s[:count], s[count:]
}

// oneByte has the lowest byte of v.
func oneByte(v int) string {
	return string([]byte{byte(v)})
}

// number has what the bytes of s are as a number, the highest first; there are at most two.
func number(s string) int {
	v := 0
	for at := range len(s) {
		v = v<<8 | int(s[at])
	}
	return v
}
