package queue

import "container/heap"

// heaped is what a queue asks of its numbers: the calls by which container/heap keeps the least in front, and a look at that one.
type heaped interface {
	heap.Interface
	first() int
}

// least tells the number that stands in front; false, if there is none.
func least(h heaped) (int, bool) {
	if h.Len() == 0 {
		return 0, false
	}
	return h.first(), true
}

// pile is numbers as container/heap lays them: the least in front, the others in no order that may be told.
type pile []int

func (p *pile) Len() int { return len(*p) }

func (p *pile) Less(i, j int) bool { return (*p)[i] < (*p)[j] }

func (p *pile) Swap(i, j int) { (*p)[i], (*p)[j] = (*p)[j], (*p)[i] }

// Push and Pop work at the end: container/heap moves numbers to and from the front.
func (p *pile) Push(x any) {
	if v, ok := x.(int); ok {
		*p = append(*p, v)
	}
}

func (p *pile) Pop() any {
	last := len(*p) - 1
	v := (*p)[last]
	*p = (*p)[:last]
	return v
}

func (p *pile) first() int { return (*p)[0] }
