package server

import (
	"cmp"
	"slices"

	"letterpress/api"
	"letterpress/frame"
)

// Of each session:
const (
	mostQueued = 4    // requests
	mostLying  = 2000 // bytes that were not read yet
)

// session is one that is open: what came of it, what is to be done, what it was answered.
type session struct {
	id    int
	lies  []byte  // bytes that were not read yet
	queue []*turn // of these the first alone may have begun
	ready []byte  // answers that were not taken yet
}

func (x *session) number() int { return x.id }

func (x *session) against(id int) int { return cmp.Compare(x.id, id) }

func (x *session) is(y *session) bool { return x == y }

// hasRoom tells whether n more bytes may lie there.
func (x *session) hasRoom(n int) bool { return n <= mostLying-len(x.lies) }

// read queues as many requests as have place, of those that lie there whole.
func (x *session) read(d desk, clock int) api.Errno {
	for len(x.queue) < mostQueued {
		r, used, e := frame.ReadRequest(x.lies)
		if e == api.Large {
			return api.Large
		}
		if used == 0 {
			return api.OK
		}
		x.lies = slices.Delete(x.lies, 0, used)
		x.queue = append(x.queue, newTurn(d, clock, r, e))
	}
	return api.OK
}

// shift lays the first request's answer ready, and answers its turn, which is over.
func (x *session) shift(r api.Response) *turn {
	t := x.queue[0]
	x.queue = slices.Delete(x.queue, 0, 1)
	x.ready = append(x.ready, frame.Response(r)...)
	return t
}

func (x *session) takeReady() []byte {
	b := x.ready
	x.ready = nil
	return b
}

// leave drops what is under way.
func (x *session) leave() {
	if len(x.queue) > 0 {
		x.queue[0].leave()
	}
}
