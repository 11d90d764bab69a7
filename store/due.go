package store

import "container/heap"

// due is the histories that wait, as a heap: the first is the one of which Clean takes a version next, so that Clean looks at none of which nothing goes.
type due []*history

func (d *due) put(h *history) { heap.Push(d, h) }

// take answers the first one, which is in d no more.
func (d *due) take() *history {
	h := (*d)[0]
	heap.Pop(d)
	return h
}

func (d due) Len() int { return len(d) }

func (d due) Less(i, j int) bool { return d[i].next() < d[j].next() }

func (d due) Swap(i, j int) { d[i], d[j] = d[j], d[i] }

func (d *due) Push(x any) {
	if h, is := x.(*history); is {
		*d = append(*d, h)
	}
}

func (d *due) Pop() any {
	last := len(*d) - 1
	h := (*d)[last]
	(*d)[last] = nil
	*d = (*d)[:last]
	return h
}
