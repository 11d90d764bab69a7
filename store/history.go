package store

import (
	"slices"
	"strings"
)

// mark is the stamp by which versions, and pins, stand in their order.
type mark struct{ at int }

// past holds a mark against a stamp, for a search among what has marks. It is never 0, so that the search ends behind all that are no more than the stamp.
func (m mark) past(at int) int {
	if m.at > at {
		return 1
	}
	return -1
}

// pin is how many times a stamp is pinned.
type pin struct {
	mark
	times int
}

// version is what a key became at a stamp.
type version struct {
	mark
	value string
	gone  bool
}

// history is a key's versions, rising by their stamps.
type history struct {
	key  string
	list []version
	off  int // how many at the front of list have gone
}

func (h *history) live() []version { return h.list[h.off:] }

func (h *history) empty() bool { return len(h.live()) == 0 }

func (h *history) add(x version) { h.list = append(h.list, x) }

// newest is the stamp of the newest version; there is one, as an empty history is forgotten at once.
func (h *history) newest() int { return h.list[len(h.list)-1].at }

// upTo is how many versions there are whose stamps are no more than at.
func (h *history) upTo(at int) int {
	n, _ := slices.BinarySearchFunc(h.live(), at, version.past)
	return n
}

func (h *history) read(at int) (string, bool) {
	n := h.upTo(at)
	if n == 0 {
		return "", false
	}
	x := h.live()[n-1]
	return strings.Clone(x.value), !x.gone
}

// waits is whether there is a version that Clean is to take, once it goes far enough: one that has another behind it, or is gone.
func (h *history) waits() bool {
	l := h.live()
	return len(l) > 1 || len(l) == 1 && l[0].gone
}

// next is the stamp that Clean must go up to, to take the first version of a history that waits.
func (h *history) next() int {
	l := h.live()
	if l[0].gone {
		return l[0].at
	}
	return l[1].at
}

// trim takes the versions that nobody reads at low or above it; how many.
func (h *history) trim(low int) int {
	n := h.upTo(low)
	if n > 0 && !h.live()[n-1].gone {
		n--
	}
	h.drop(n)
	return n
}

// drop takes the first n. Their room is given back as soon as they are half of all: to copy the others then costs no more than the dropped ones did.
func (h *history) drop(n int) {
	clear(h.live()[:n])
	h.off += n
	if 2*h.off >= len(h.list) {
		h.list, h.off = slices.Clone(h.live()), 0
	}
}
