package queue_test

import (
	"math"
	"slices"
	"testing"

	"umbel/queue"
)

// mixed is so many numbers that follow no plain rule, from -span up to below span; with a small span many are alike.
func mixed(count, span int) []int {
	l := make([]int, count)
	v := uint32(count + span)
	for i := range l {
		v = v*1664525 + 1013904223
		l[i] = int(v>>8)%(2*span) - span
	}
	return l
}

// run is so many numbers from some one on, each by step more than the one ahead of it.
func run(count, from, step int) []int {
	l := make([]int, count)
	for i := range l {
		l[i] = from + i*step
	}
	return l
}

// orders has each order of the numbers of l.
func orders(l []int) [][]int {
	if len(l) == 0 {
		return [][]int{{}}
	}
	all := [][]int{}
	for i := range l {
		rest := slices.Delete(slices.Clone(l), i, i+1)
		for _, o := range orders(rest) {
			all = append(all, append([]int{l[i]}, o...))
		}
	}
	return all
}

// lists has ordinary numbers and edges: none, one, alike ones, the least and the greatest int, rising, falling and mixed ones, and all orders of a few.
func lists() [][]int {
	all := [][]int{
		nil,
		{},
		{0},
		{-1},
		{math.MinInt},
		{math.MaxInt},
		{3, 1, 2},
		{1, 1},
		{7, 7, 7, 7, 7, 7, 7},
		{0, 0, -1, 0, 1, 0},
		{math.MaxInt, math.MinInt},
		{math.MinInt, math.MaxInt},
		{math.MaxInt, 0, math.MinInt, -1, math.MaxInt, 1, math.MinInt},
		{math.MaxInt - 1, math.MaxInt, math.MinInt + 1, math.MinInt},
		run(40, -20, 1),
		run(40, 20, -1),
		run(33, 5, 0),
	}
	for count := 1; count <= 70; count++ {
		all = append(all, mixed(count, 3), mixed(count, 1000))
	}
	all = append(all, mixed(2000, 50), mixed(2001, 1<<20))
	all = append(all, orders([]int{1, 2, 3, 4, 5, 6})...)
	return append(all, orders([]int{4, 4, 5, 5, 6})...)
}

// rising has the numbers of l, the least first.
func rising(l []int) []int {
	out := slices.Clone(l)
	slices.Sort(out)
	return out
}

// holds checks that q has just the numbers of want, which are rising, by the calls that change nothing; each of them twice, since they must leave the queue as it was.
func holds(t *testing.T, q *queue.Queue, want []int) {
	t.Helper()
	for range 2 {
		if got := q.Len(); got != len(want) {
			t.Fatalf("Len: %d, want %d", got, len(want))
		}
		if got := q.List(); !slices.Equal(got, want) {
			t.Fatalf("List: %v, want %v", got, want)
		}
		v, ok := q.Peek()
		if ok != (len(want) > 0) || ok && v != want[0] || !ok && v != 0 {
			t.Fatalf("Peek: %d %v of %v", v, ok, want)
		}
	}
}

// pops checks that Pop tells the first of want, which are rising, and gives what is left.
func pops(t *testing.T, q *queue.Queue, want []int) []int {
	t.Helper()
	v, ok := q.Pop()
	if len(want) == 0 {
		if v != 0 || ok {
			t.Fatalf("Pop of nothing: %d %v", v, ok)
		}
		return want
	}
	if v != want[0] || !ok {
		t.Fatalf("Pop: %d %v, want %d", v, ok, want[0])
	}
	return want[1:]
}

// more gives want, which is rising, with v at its place.
func more(want []int, v int) []int {
	at, _ := slices.BinarySearch(want, v)
	return slices.Insert(slices.Clone(want), at, v)
}

// Example 1: New of 3, 1, 2: Pop tells 1.
func TestExample(t *testing.T) {
	q := queue.New([]int{3, 1, 2})
	if v, ok := q.Pop(); v != 1 || !ok {
		t.Errorf("Pop: %d %v", v, ok)
	}
	holds(t, q, []int{2, 3})
}

// P5.1, New, Len, Peek, List: all numbers are there, those that are alike too.
func TestNewHasAll(t *testing.T) {
	for _, l := range lists() {
		holds(t, queue.New(l), rising(l))
	}
}

// P5.1, Push: one more each time, whatever was there.
func TestPush(t *testing.T) {
	for _, l := range lists() {
		if len(l) > 100 {
			continue
		}
		q, want := queue.New(nil), []int{}
		for _, v := range l {
			q.Push(v)
			want = more(want, v)
			holds(t, q, want)
		}
	}
}

// P5.1, Push: a number that is below, among, above and like those that there are.
func TestPushBesideOthers(t *testing.T) {
	for _, l := range lists() {
		for _, v := range []int{math.MinInt, -2, -1, 0, 1, 3, 5, math.MaxInt - 1, math.MaxInt} {
			q := queue.New(l)
			q.Push(v)
			holds(t, q, more(rising(l), v))
		}
	}
}

// P5.1, Pop: just the least is taken away, one of those that are alike; with none there it tells false, again and again.
func TestPopTakesTheLeast(t *testing.T) {
	for _, l := range lists() {
		q, want := queue.New(l), rising(l)
		if len(l) > 100 {
			want = pops(t, q, want)
			holds(t, q, want)
			continue
		}
		for range len(l) + 2 {
			want = pops(t, q, want)
			holds(t, q, want)
		}
	}
}

// P5.1, Pop and Peek of an empty queue: 0 and false; List: nothing. However it came to be empty, what is pushed then is there.
func TestEmpty(t *testing.T) {
	emptied := queue.New([]int{5, -5})
	emptied.Pop()
	emptied.Pop()
	pushed := queue.New(nil)
	pushed.Push(7)
	pushed.Pop()
	for _, q := range []*queue.Queue{queue.New(nil), queue.New([]int{}), queue.New(make([]int, 0, 4)), emptied, pushed} {
		holds(t, q, nil)
		pops(t, q, nil)
		pops(t, q, nil)
		holds(t, q, nil)
		q.Push(-3)
		holds(t, q, []int{-3})
		pops(t, q, []int{-3})
		holds(t, q, nil)
	}
}

// P5.1, of nil: nothing is done, nothing is there.
func TestNil(t *testing.T) {
	var q *queue.Queue
	for range 2 {
		holds(t, q, nil)
		pops(t, q, nil)
		q.Push(5)
		q.Push(math.MinInt)
		holds(t, q, nil)
		pops(t, q, nil)
	}
	if q != nil {
		t.Error("nil is something now")
	}
}

// P5.2: popped to the end they come rising.
func TestPoppedRising(t *testing.T) {
	for _, l := range lists() {
		q := queue.New(l)
		got := []int{}
		for v, ok := q.Pop(); ok && len(got) <= len(l); v, ok = q.Pop() {
			got = append(got, v)
		}
		if !slices.Equal(got, rising(l)) {
			t.Errorf("popped %v, want %v", got, rising(l))
		}
	}
}

// P5.2: also where they were pushed one by one, or some given and some pushed.
func TestPushedPoppedRising(t *testing.T) {
	for _, l := range lists() {
		for _, given := range []int{0, len(l) / 3, len(l) / 2} {
			q := queue.New(l[:given])
			for _, v := range l[given:] {
				q.Push(v)
			}
			want := rising(l)
			for range len(l) + 1 {
				want = pops(t, q, want)
			}
			holds(t, q, nil)
		}
	}
}

// P5.1 and P5.2: Push behind Pop and Pop behind Push, mixed, with looks between that change nothing.
func TestMixedCalls(t *testing.T) {
	for _, span := range []int{1, 4, 1 << 20} {
		start := mixed(20, span)
		q, want := queue.New(start), rising(start)
		for i, v := range mixed(1500, span) {
			if i%5 < 2 || i/100%3 == 1 {
				want = pops(t, q, want)
			} else {
				q.Push(v)
				want = more(want, v)
			}
			if len(want) < 100 || i%50 == 0 {
				holds(t, q, want)
			}
		}
		for len(want) > 0 {
			want = pops(t, q, want)
		}
		holds(t, q, nil)
	}
}

// stir makes each call of q some times, so that whatever it shares with others would be written to.
func stir(q *queue.Queue) {
	for _, v := range []int{math.MinInt, 50, -50, math.MaxInt} {
		q.Push(v)
		q.Peek()
		q.Len()
		q.List()
	}
	for range 6 {
		q.Pop()
		q.List()
	}
	for v := range 9 {
		q.Push(-v)
	}
}

// Rule 2: what New is given is not changed, its spare room included, by New or by any call behind it.
func TestGivenUnchanged(t *testing.T) {
	for _, l := range lists() {
		whole := append(slices.Clone(l), 91, 92, 93, 94, 95, 96, 97, 98)
		before := slices.Clone(whole)
		stir(queue.New(whole[:len(l)]))
		if !slices.Equal(whole, before) {
			t.Fatalf("given %v, now %v", before, whole)
		}
	}
}

// Rule 2: what New is given is not kept: who changes it later does not change the queue.
func TestGivenNotKept(t *testing.T) {
	for _, l := range lists() {
		given := append(slices.Clone(l), 91, 92, 93)[:len(l)]
		q, want := queue.New(given), rising(l)
		spoil(given)
		holds(t, q, want)
		q.Push(2)
		spoil(given)
		holds(t, q, more(want, 2))
	}
}

// spoil writes over all of l, its spare room too.
func spoil(l []int) {
	l = l[:cap(l)]
	for i := range l {
		l[i] = -777777 - i
	}
}

// Rule 2: what List tells is new memory, its spare room too: changing it changes neither the queue nor another answer.
func TestListIsNew(t *testing.T) {
	for _, l := range lists() {
		q, want := queue.New(l), rising(l)
		one, other := q.List(), q.List()
		spoil(one)
		if !slices.Equal(other, want) {
			t.Fatalf("another List's answer: %v, want %v", other, want)
		}
		holds(t, q, want)
		spoil(append(other, 1))
		holds(t, q, want)
		third := q.List()
		stir(q)
		if !slices.Equal(third, want) {
			t.Fatalf("List's answer behind other calls: %v, want %v", third, want)
		}
	}
}

// Rule 2: the spare room of a List's answer is not the queue's, nor that of numbers that are pushed later.
func TestListSpareRoom(t *testing.T) {
	q := queue.New(nil)
	for v := range 9 {
		q.Push(v)
	}
	for range 4 {
		q.Pop()
	}
	l := q.List()
	q.Push(100)
	spoil(l)
	holds(t, q, []int{4, 5, 6, 7, 8, 100})
}

// Rule 4: two queues of the same numbers share nothing, and a queue hangs on its own calls alone.
func TestQueuesApart(t *testing.T) {
	l := []int{5, 3, 8, 3}
	one, other := queue.New(l), queue.New(l)
	stir(one)
	holds(t, other, []int{3, 3, 5, 8})
	before := one.List()
	stir(other)
	holds(t, one, before)
}
