package server_test

import (
	"bytes"
	"fmt"
	"maps"
	"math/rand"
	"slices"
	"strings"
	"testing"
	"unsafe"

	"letterpress/api"
	"letterpress/frame"
	"letterpress/incr"
	"letterpress/server"
	"letterpress/store"
	"letterpress/txn"
	"letterpress/work"
)

// plain is chapter 12 written a second time, as its words stand: one list of all that is queued, as bytes that are read when it is their turn, and for each session that is open what lies there and what lies ready.
type plain struct {
	s       *store.Store
	b       *incr.Builder
	clock   int
	born    int
	lies    map[int]string
	ready   map[int]string
	queue   []queued
	records []server.Record
}

type queued struct {
	session, came int
	bytes         string
	x             *txn.Txn // once it is begun
}

func newPlain(limit int) *plain {
	return &plain{s: store.New(limit), b: incr.New(), lies: map[int]string{}, ready: map[int]string{}}
}

func (p *plain) connect() (int, api.Errno) {
	if len(p.lies) >= 4 {
		return 0, api.Limit
	}
	id := p.born
	p.lies[id], p.ready[id] = "", ""
	p.born++
	return id, api.OK
}

func (p *plain) open() []int { return slices.Sorted(maps.Keys(p.lies)) }

func (p *plain) of(id int) []int {
	var l []int
	for i, x := range p.queue {
		if x.session == id {
			l = append(l, i)
		}
	}
	return l
}

func (p *plain) bytes(id int, b string) api.Errno {
	lies, is := p.lies[id]
	if !is {
		return api.Missing
	}
	if len(lies)+len(b) > 2000 {
		return api.Full
	}
	p.clock++
	p.lies[id] = lies + b
	return p.read(id)
}

func (p *plain) read(id int) api.Errno {
	for len(p.of(id)) < 4 && len(p.lies[id]) >= 2 {
		lies := p.lies[id]
		end := 2 + 256*int(lies[0]) + int(lies[1])
		if end > 1002 {
			p.drop(id)
			return api.Large
		}
		if end > len(lies) {
			break
		}
		p.lies[id] = lies[end:]
		p.queue = append(p.queue, queued{session: id, came: p.clock, bytes: lies[:end]})
	}
	return api.OK
}

func (p *plain) step(id int) bool {
	l := p.of(id)
	if len(l) == 0 {
		return false
	}
	p.clock++
	x := &p.queue[l[0]]
	r, _, e := frame.ReadRequest([]byte(x.bytes))
	d, is := txn.Done{R: api.Response{E: api.BadFrame}}, true
	if e == api.OK {
		if x.x == nil {
			x.x = txn.Begin(p.s, p.b, r)
		}
		d, is = x.x.Step()
	}
	if !is {
		return true
	}
	p.ready[id] += string(frame.Response(d.R))
	switch d.R.E {
	case api.BadFrame, api.Busy, api.Full:
	default:
		p.records = append(p.records, server.Record{Session: id, Came: x.came, Told: p.clock, Stamp: d.Stamp, Wrote: d.Wrote, Q: r, R: d.R})
	}
	p.queue = slices.Delete(p.queue, l[0], l[0]+1)
	p.read(id)
	return true
}

func (p *plain) out(id int) string {
	b := p.ready[id]
	if b != "" {
		p.ready[id] = ""
	}
	return b
}

func (p *plain) drop(id int) api.Errno {
	if _, is := p.lies[id]; !is {
		return api.Missing
	}
	for _, i := range p.of(id) {
		if p.queue[i].x != nil {
			p.queue[i].x.Drop()
		}
	}
	p.queue = slices.DeleteFunc(p.queue, func(x queued) bool { return x.session == id })
	delete(p.lies, id)
	delete(p.ready, id)
	return api.OK
}

// plainOrder takes one after the other of those that are left the one that none is ahead of.
func plainOrder(l []server.Record) []int {
	var left, out []int
	for i := range l {
		left = append(left, i)
	}
	for len(left) > 0 {
		first := 0
		for k := range left {
			if ahead(l[left[k]], l[left[first]]) {
				first = k
			}
		}
		out = append(out, left[first])
		left = slices.Delete(left, first, first+1)
	}
	return out
}

func ahead(x, y server.Record) bool {
	if x.Stamp != y.Stamp {
		return x.Stamp < y.Stamp
	}
	if x.Wrote != y.Wrote {
		return x.Wrote
	}
	return x.Told < y.Told
}

// told is all of a record.
func told(x server.Record) string {
	return fmt.Sprintf("%d: %d to %d, %d %v: %d %q %q %d: %s", x.Session, x.Came, x.Told, x.Stamp, x.Wrote, x.Q.Kind, x.Q.Name, x.Q.Text, x.Q.Value, answered(x.R))
}

func answered(r api.Response) string {
	return fmt.Sprintf("%d %q %x %v", int(r.E), r.Text, r.Image, r.Diags)
}

func allTold(l []server.Record) string {
	var out []string
	for _, x := range l {
		out = append(out, told(x))
	}
	return strings.Join(out, "\n")
}

// hall is a server with what it must be like.
type hall struct {
	t    *testing.T
	s    *server.Server
	p    *plain
	l    []string // what was done
	seen map[string]int
}

func newHall(t *testing.T, limit int) *hall {
	return &hall{t: t, s: server.New(limit), p: newPlain(limit), seen: map[string]int{}}
}

func (h *hall) note(form string, l ...any) { h.l = append(h.l, fmt.Sprintf(form, l...)) }

func (h *hall) done() string { return strings.Join(h.l[max(0, len(h.l)-12):], ", ") }

func (h *hall) same(what string, got, want any) {
	h.t.Helper()
	if got, want := fmt.Sprint(got), fmt.Sprint(want); got != want {
		h.t.Fatalf("%s: %s: %.900s, not %.900s", what, h.done(), got, want)
	}
}

func (h *hall) connect() (int, api.Errno) {
	h.t.Helper()
	h.note("connect")
	id, e := h.s.Connect()
	want, wantE := h.p.connect()
	h.same("P1201", fmt.Sprint(id, e), fmt.Sprint(want, wantE))
	h.look()
	return id, e
}

// bytes hands in b with spare room, which must stay as it is and is changed afterwards.
func (h *hall) bytes(id int, b string) api.Errno {
	h.t.Helper()
	h.note("bytes %d %.30q (%d)", id, b, len(b))
	room := []byte(b + "spare room")
	e := h.s.Bytes(id, room[:len(b)])
	if string(room) != b+"spare room" {
		h.t.Fatalf("P2: %s: became %q", h.done(), room)
	}
	fill(room, '!')
	h.same("P1201", e, h.p.bytes(id, b))
	h.seen["bytes "+e.Error()]++
	h.look()
	return e
}

func (h *hall) step(id int) bool {
	h.t.Helper()
	h.note("step %d", id)
	is := h.s.Step(id)
	h.same("P1202", is, h.p.step(id))
	h.look()
	return is
}

// out answers what was ready; what the server answered is changed afterwards.
func (h *hall) out(id int) string {
	h.t.Helper()
	h.note("out %d", id)
	b := h.s.Out(id)
	got := string(b)
	h.same("P1202", fmt.Sprintf("%q", got), fmt.Sprintf("%q", h.p.out(id)))
	fill(b, '!')
	h.look()
	return got
}

func (h *hall) drop(id int) api.Errno {
	h.t.Helper()
	h.note("drop %d", id)
	e := h.s.Drop(id)
	h.same("P1202", e, h.p.drop(id))
	h.look()
	return e
}

// look holds what may be asked behind each call against one another.
func (h *hall) look() {
	h.t.Helper()
	open := h.s.Open()
	h.same("P1201", open, h.p.open())
	fill(open, -7)
	for id := -1; id <= h.p.born; id++ {
		if got, want := h.s.Queued(id), len(h.p.of(id)); got != want {
			h.t.Fatalf("P1201: %s: %d queued of %d, not %d", h.done(), got, id, want)
		}
	}
}

// records holds all that was recorded against one another, twice, as what was answered is changed.
func (h *hall) records() []server.Record {
	h.t.Helper()
	for range 2 {
		l := h.s.Records()
		h.same("P1202", allTold(l), allTold(h.p.records))
		for _, x := range l {
			h.seen[fmt.Sprint(x.Q.Kind, " ", x.R.E)]++
		}
		spoilRecords(l)
	}
	return h.s.Records()
}

// oneOrder is T1, of what was recorded.
func (h *hall) oneOrder() {
	h.t.Helper()
	l := h.records()
	order := server.Order(l)
	h.same("P1202", order, plainOrder(l))
	w := work.New()
	wrote, latest := 0, 0 // how many wrote so far; when the last of them came
	for _, k := range order {
		x := l[k]
		if x.Wrote {
			wrote++
		}
		if got := answered(w.Do(x.Q)); got != answered(x.R) || x.Stamp != wrote {
			h.t.Fatalf("P1203: %s: %s: at once, behind %d: %s", h.done(), told(x), wrote, got)
		}
		if latest = max(latest, x.Came); x.Told < latest {
			h.t.Fatalf("P1203: %s: %s was told ahead of one that came at %d, and is behind it", h.done(), told(x), latest)
		}
	}
}

// fill writes all over a list, its spare room too.
func fill[T any](l []T, x T) {
	for i := range l[:cap(l)] {
		l[:cap(l)][i] = x
	}
}

// spoil writes all over a text that was answered, which is new memory.
func spoil(s string) {
	if s != "" {
		fill(unsafe.Slice(unsafe.StringData(s), len(s)), '!')
	}
}

func spoilRecords(l []server.Record) {
	for _, x := range l {
		spoil(x.Q.Name)
		spoil(x.Q.Text)
		spoil(x.R.Text)
		for _, y := range x.R.Diags {
			spoil(y.Frag)
		}
		fill(x.R.Image, 0xee)
		fill(x.R.Diags, api.Diag{Frag: "spoilt", Line: -1, E: -1})
	}
	fill(l, server.Record{Session: -1, Came: -1, Told: -1, Stamp: -1})
}

func put(name, text string) string {
	return whole(api.Request{Kind: api.RPut, Name: name, Text: text})
}
func del(name string) string { return whole(api.Request{Kind: api.RDel, Name: name}) }
func more(name, text string) string {
	return whole(api.Request{Kind: api.RAppend, Name: name, Text: text})
}
func show(name string) string { return whole(api.Request{Kind: api.RShow, Name: name}) }
func define(name string, value int) string {
	return whole(api.Request{Kind: api.RDefine, Name: name, Value: value})
}
func undef(name string) string { return whole(api.Request{Kind: api.RUndef, Name: name}) }

var build = whole(api.Request{Kind: api.RBuild})

// whole is a request's bytes.
func whole(r api.Request) string { return string(frame.Request(r)) }

// answers are what lies ready, each by its error and all else that it has.
func answers(t *testing.T, b string) string {
	t.Helper()
	var l []string
	for rest := []byte(b); len(rest) > 0; {
		r, used, is := frame.ReadResponse(rest)
		if !is {
			t.Fatalf("P1202: %.100q is no answer", rest)
		}
		s := r.E.Error()
		if r.Text != "" {
			s += fmt.Sprintf(" %.30q", r.Text)
		}
		if len(r.Image) > 0 {
			s += fmt.Sprintf(" %x", r.Image)
		}
		for _, x := range r.Diags {
			s += fmt.Sprintf(" %s:%d %v", x.Frag, x.Line, x.E)
		}
		l = append(l, s)
		rest = bytes.Clone(rest[used:])
	}
	return strings.Join(l, ", ")
}

func pick[T any](d *rand.Rand, l ...T) T { return l[d.Intn(len(l))] }
