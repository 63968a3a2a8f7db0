package sample

import "umbel/api"

// Numbers tells numbers that follow no plain rule, the same ones of one seed.
type Numbers uint32

// Below tells a number from 0 up to n, which is above 0, but not n.
func (v *Numbers) Below(n int) int {
	*v = *v*1664525 + 1013904223
	return int(*v>>8) % n
}

// Text tells from least to most bytes, of few kinds if the choice, at most 9, is narrow, so that texts begin alike.
func (v *Numbers) Text(least, most, choice int) string {
	var b []byte
	for range least + v.Below(most-least+1) {
		b = append(b, "\x00\x01\x10\x11\xff\xf0\x0f\x7f\x80"[v.Below(choice)])
	}
	return string(b)
}

// Some tells up to so many pairs that may be, rising.
func (v *Numbers) Some(most, choice int) []api.Pair {
	var l []api.Pair
	for range v.Below(most + 1) {
		key := v.Text(1, api.MaxKey, choice)
		l = With(l, api.Pair{Key: key, Value: v.Text(0, api.MaxValue, 9)})
	}
	return l
}

// Nodes tells up to so many nodes of any Kind, whose children, if any, are as far ahead as in a trie, or nearly so.
func (v *Numbers) Nodes(most int) api.Trie {
	count := 1 + v.Below(most)
	var t api.Trie
	for at := range count {
		t = append(t, v.node(at))
	}
	return t
}

func (v *Numbers) node(at int) api.Node {
	path := []string{"", "\x00", "\x0a", "\x00\x01"}[v.Below(4)]
	switch v.Below(4) {
	case 0:
		n := Branch(v.Below(16), at+1, v.Below(16), at+2+v.Below(2))
		n.Has = v.Below(3) == 0
		return n
	case 1:
		return Ext(path, at+1)
	}
	return Leaf(path, v.Text(0, 2, 9))
}
