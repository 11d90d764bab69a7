package server

import (
	"cmp"
	"container/heap"
)

// mark is by what a record's place in the order is found.
type mark struct{ stamp, late, told, place int }

func (x Record) mark(place int) mark {
	m := mark{stamp: x.Stamp, late: 1, told: x.Told, place: place}
	if x.Wrote {
		m.late = 0 // what reads at a stamp is behind what wrote it
	}
	return m
}

func (m mark) against(o mark) int {
	return cmp.Or(cmp.Compare(m.stamp, o.stamp), cmp.Compare(m.late, o.late), cmp.Compare(m.told, o.told), cmp.Compare(m.place, o.place))
}

// row is records' marks, as a heap: the first is the one that is next.
type row []mark

func Order(l []Record) []int {
	var r row
	for i, x := range l {
		heap.Push(&r, x.mark(i))
	}
	var places []int
	for range l {
		places = append(places, r[0].place)
		heap.Pop(&r)
	}
	return places
}

func (r row) Len() int { return len(r) }

func (r row) Less(i, j int) bool { return r[i].against(r[j]) < 0 }

func (r row) Swap(i, j int) { r[i], r[j] = r[j], r[i] }

func (r *row) Push(x any) {
	if m, is := x.(mark); is {
		*r = append(*r, m)
	}
}

func (r *row) Pop() any {
	last := len(*r) - 1
	m := (*r)[last]
	*r = (*r)[:last]
	return m
}
