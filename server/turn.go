package server

import (
	"letterpress/api"
	"letterpress/incr"
	"letterpress/store"
	"letterpress/txn"
)

// desk is what all sessions' requests go through.
type desk struct {
	store   *store.Store
	builder *incr.Builder
}

// turn is a request that is queued, or in its place what was none.
type turn struct {
	desk desk
	came int
	r    api.Request
	step func() (txn.Done, bool) // what a Step does: one of the turn's own, then what it has begun
	drop func()                  // ends what it has begun; nil: nothing
}

// newTurn is that of what frame.ReadRequest told as r and e.
func newTurn(d desk, came int, r api.Request, e api.Errno) *turn {
	t := &turn{desk: d, came: came, r: r}
	t.step = t.begin
	if e != api.OK {
		t.step = t.refuse
	}
	return t
}

func (t *turn) begin() (txn.Done, bool) {
	x := txn.Begin(t.desk.store, t.desk.builder, t.r)
	t.step, t.drop = x.Step, x.Drop
	return t.step()
}

func (t *turn) refuse() (txn.Done, bool) {
	return txn.Done{R: api.Response{E: api.BadFrame}}, true
}

func (t *turn) leave() {
	if t.drop != nil {
		t.drop()
	}
}
