package server_test

import (
	"bytes"
	"fmt"
	"math"
	"math/rand"
	"runtime"
	"slices"
	"strings"
	"sync"
	"testing"
	"unsafe"

	"letterpress/api"
	"letterpress/frame"
	"letterpress/server"
)

// wild calls a server in any order, with any numbers and any bytes; all that it answered.
func wild(seed int64) string {
	d := rand.New(rand.NewSource(seed))
	s := server.New(pick(d, 0, 1, 5, 20, 1000, -1, math.MinInt, math.MaxInt))
	a := newAuthor(d)
	pieces := []string{"", "\x00", "\x00\x00", "\x00\x01", "\x03\xe8", strings.Repeat("\x00", 1999), strings.Repeat("x", 2000), strings.Repeat("\x00\x01", 1001), strings.Repeat("\xff", 1<<16)}
	var l []string
	for range 300 {
		id := pick(d, 0, 0, 1, 1, 2, 3, 4, 5, -1, math.MaxInt, math.MinInt, 1<<32, 1<<32+1)
		switch d.Intn(9) {
		case 0:
			l = append(l, fmt.Sprint(s.Connect()))
		case 1, 2:
			b := a.send() + a.send()
			l = append(l, fmt.Sprint(s.Bytes(id, []byte(b)[:d.Intn(len(b)+1)])))
		case 3:
			if d.Intn(6) == 0 {
				l = append(l, fmt.Sprint(s.Bytes(id, []byte(pick(d, pieces...)))))
			}
		case 4:
			l = append(l, fmt.Sprintf("%q", s.Out(id)))
		case 5:
			if d.Intn(8) == 0 {
				l = append(l, fmt.Sprint(s.Drop(id)))
			}
		default:
			l = append(l, fmt.Sprint(s.Step(id)))
		}
		l = append(l, fmt.Sprint(s.Open(), s.Queued(id)))
	}
	return strings.Join(append(l, allTold(s.Records()), fmt.Sprint(server.Order(s.Records()))), "\n")
}

// P1, P3, P9: whatever is called with whatever, each call ends, and the same calls answer the same.
func TestWild(t *testing.T) {
	for seed := range int64(500) {
		if a, b := wild(seed), wild(seed); a != b {
			t.Fatalf("P3: seed %d: %.2000s", seed, a)
		}
	}
}

// P1: bytes that are very many are Full, and leave nothing.
func TestVeryMany(t *testing.T) {
	for _, c := range []string{"\x00", "\xff", "\x03"} {
		h := newHall(t, 9)
		h.connect()
		h.bytes(0, put("a", "x")[:5])
		if e := h.s.Bytes(0, bytes.Repeat([]byte(c), 1<<26)); e != api.Full {
			t.Errorf("P1201: %v", e)
		}
		h.same("P5", h.do(0, put("a", "x")[5:]+show("a")), `ok, ok "x"`)
		h.same("P5", h.records()[0].Came, 2)
	}
}

// P4: what answers an error, or that there is nothing, answers zero values beside it.
func TestZeros(t *testing.T) {
	s := server.New(1000)
	for range 5 {
		s.Connect()
	}
	if id, e := s.Connect(); id != 0 || e != api.Limit {
		t.Errorf("P4: %d, %v", id, e)
	}
	s.Bytes(3, []byte(build+show("a")))
	for s.Step(3) {
	}
	for _, x := range s.Records() {
		if x.Q.Text != "" || x.Q.Value != 0 || x.R.Text != "" || len(x.R.Image)+len(x.R.Diags) > 0 {
			t.Errorf("P4: %s", told(x))
		}
	}
}

// full is a server with records of each kind, two of most, and what it must answer of them.
func full(t *testing.T) *hall {
	h := newHall(t, 1000)
	h.connect()
	h.connect()
	for id := range 2 {
		h.do(id, put("a", "l: b l\n.byte n\n")+build+show("a")+build)
		h.do(id, define("n", 7)+build+build+more("a", "# same"))
		h.do(id, show("a")+show("a")+undef("n")+build)
	}
	return h
}

// P2: records are new memory each time, and no two things of an answer share any.
func TestRecordsApart(t *testing.T) {
	h := full(t)
	seen := map[*byte]string{}
	apart := func(what string, p *byte) {
		if was := seen[p]; p != nil && was != "" {
			t.Fatalf("P2: %s is in the memory of %s", what, was)
		}
		seen[p] = what
	}
	var all [][]server.Record
	for range 3 {
		l := h.s.Records()
		all = append(all, l)
		for i, x := range l {
			for k, s := range []string{x.Q.Name, x.Q.Text, x.R.Text} {
				apart(fmt.Sprintf("%d: %q %d", i, s, k), unsafe.StringData(s))
			}
			for _, y := range x.R.Diags {
				apart(fmt.Sprintf("%d: %v", i, y), unsafe.StringData(y.Frag))
			}
			apart(fmt.Sprintf("%d: %x", i, x.R.Image), unsafe.SliceData(x.R.Image))
		}
	}
	// Lists, with the spare room of each: what is written into one shows in no other.
	for k, l := range all {
		for i := range l {
			fill(l[i].R.Image, byte(i+50*k))
			fill(l[i].R.Diags, api.Diag{Frag: "own", Line: i + 50*k})
		}
		fill(l[:cap(l)][len(l):], server.Record{Session: k})
	}
	for k, l := range all {
		for i, x := range l {
			if n := byte(i + 50*k); len(x.R.Image) != bytes.Count(x.R.Image, []byte{n}) {
				t.Fatalf("P2: %d of %d: %x", i, k, x.R.Image)
			}
			for _, y := range x.R.Diags {
				if y.Line != i+50*k {
					t.Fatalf("P2: %d of %d: %v", i, k, y)
				}
			}
		}
	}
	h.oneOrder()
}

// P2: what was answered may be changed, whatever it is, and all goes on as if it had not been.
func TestAnswersChanged(t *testing.T) {
	h := full(t)
	for _, id := range h.s.Open() {
		fill(h.s.Open(), 3)
		h.bytes(id, put("b", "text")+show("b")+more("b", "!")+build)
		spoilRecords(h.s.Records())
		for h.step(id) {
			spoilRecords(h.s.Records())
			fill(h.s.Open(), 0)
			h.look()
		}
		one := h.s.Out(id)
		want := h.p.out(id)
		if string(one) != want || want == "" {
			t.Fatalf("P1202: %q, not %q", one, want)
		}
		fill(one, '!')
		other := h.s.Out(id)
		if len(other) > 0 {
			t.Fatal("P1202: taken twice")
		}
	}
	h.oneOrder()
	l := h.s.Records()
	want := plainOrder(l)
	for range 3 {
		order := server.Order(l)
		if !slices.Equal(order, want) {
			t.Fatalf("P2: %v, not %v", order, want)
		}
		fill(order, 0)
	}
}

// P2: what was taken stays as it is, whatever comes behind.
func TestTakenStays(t *testing.T) {
	h := full(t)
	h.bytes(0, show("a"))
	h.step(0)
	h.step(0)
	h.bytes(0, show("b"))
	one := h.s.Out(0)
	was := string(one)
	room := one[len(one):cap(one)]
	fill(room, 7)
	open, records := h.s.Open(), h.s.Records()
	recorded := allTold(records)
	h.step(0)
	h.step(0)
	h.bytes(0, put("a", "another text")+show("a"))
	for h.step(0) || h.step(1) {
	}
	two := h.s.Out(0)
	h.s.Drop(0)
	h.s.Connect()
	if string(one) != was || bytes.Count(room, []byte{7}) != len(room) || len(two) == 0 {
		t.Errorf("P2: %q became %q", was, one)
	}
	if fmt.Sprint(open) != "[0 1]" || allTold(records) != recorded {
		t.Errorf("P2: %v, %s", open, allTold(records))
	}
}

// P2: Order neither changes nor keeps what it is handed, not even what is in it.
func TestOrderLeaves(t *testing.T) {
	l := full(t).s.Records()
	slices.Reverse(l)
	room := append(slices.Clone(l), server.Record{Session: 9, Stamp: -5})
	l = room[:len(l)]
	for i := range l {
		l[i].R.Image = append(slices.Clone(l[i].R.Image), "room"...)[:len(l[i].R.Image)]
	}
	was := allTold(room)
	order := server.Order(l)
	if allTold(room) != was {
		t.Error("P2: Order changed what it was handed")
	}
	for _, x := range l {
		if string(x.R.Image[:len(x.R.Image)+4][len(x.R.Image):]) != "room" {
			t.Error("P2: Order changed spare room")
		}
	}
	want := slices.Clone(order)
	fill(room, server.Record{})
	if !slices.Equal(order, want) {
		t.Error("P2: Order's answer hangs on what it was handed")
	}
}

// long plays on a server of its own; all that it answered.
func long(seed int64, between func()) string {
	d := rand.New(rand.NewSource(seed))
	a := newAuthor(d)
	s := server.New(20)
	var l []string
	for range 400 {
		id := d.Intn(6)
		switch d.Intn(12) {
		case 0:
			l = append(l, fmt.Sprint(s.Connect()))
		case 1, 2, 3:
			l = append(l, fmt.Sprint(s.Bytes(id, []byte(a.send()))))
		case 4:
			l = append(l, fmt.Sprintf("%q", s.Out(id)))
		case 5:
			if d.Intn(10) == 0 {
				l = append(l, fmt.Sprint(s.Drop(id)))
			}
		default:
			l = append(l, fmt.Sprint(s.Step(id), s.Open(), s.Queued(id)))
		}
		between()
	}
	return strings.Join(append(l, allTold(s.Records())), "\n")
}

// P3, P7: servers side by side do not touch one another: with another's calls between, and each in a goroutine of its own.
func TestSideBySide(t *testing.T) {
	for seed := range int64(20) {
		want := long(seed, func() {})
		other := newHall(t, 50)
		p := &play{hall: other, author: newAuthor(rand.New(rand.NewSource(seed + 1000)))}
		if got := long(seed, p.move); got != want {
			t.Fatal("P7: one server touched another")
		}
		p.rest()
		answers := make([]string, 4)
		var g sync.WaitGroup
		for i := range answers {
			g.Go(func() { answers[i] = long(seed, func() {}) })
		}
		g.Wait()
		for _, got := range answers {
			if got != want {
				t.Fatal("P7: one server touched another")
			}
		}
	}
}

// P7: two servers that are called in turns, each held against what it must be like.
func TestTwoMixed(t *testing.T) {
	d := rand.New(rand.NewSource(125))
	for range 40 {
		a := newAuthor(d)
		two := []*play{{hall: newHall(t, 12), author: a}, {hall: newHall(t, 1000), author: a}}
		for range 500 {
			two[d.Intn(2)].move()
		}
		two[0].rest()
		two[1].rest()
	}
}

func inUse() uint64 {
	var m runtime.MemStats
	runtime.GC()
	runtime.ReadMemStats(&m)
	return m.HeapAlloc
}

// Of sessions that are gone nothing is held, nor of answers that were taken, nor of bytes that were read.
func TestNotHeld(t *testing.T) {
	s := server.New(1000)
	text := strings.Repeat("x", 600)
	start := inUse()
	for i := range 20000 {
		id, _ := s.Connect()
		s.Bytes(id, []byte(put("a", text)+more("b", text)))
		s.Bytes(id, []byte(put("b", text)+put("c", text)))
		s.Bytes(id, make([]byte, 2000))
		if i%3 == 0 {
			s.Step(id)
		}
		s.Drop(id)
	}
	if now := inUse(); now > start+1<<18 {
		t.Errorf("%d bytes are held of 20000 sessions that are gone", now-start)
	}
	id, _ := s.Connect()
	start = inUse()
	const n = 10000
	for range n { // a record of which there is little, with much around it that is none
		s.Bytes(id, []byte("\x03\x00"+text+text[:168]+show("b")+put("thirteen_byte", text)))
		for s.Step(id) {
		}
		s.Out(id)
	}
	if got := len(s.Records()); got != n {
		t.Fatalf("%d records", got)
	}
	if now := inUse(); now > start+n*500 {
		t.Errorf("%d bytes are held of %d records", now-start, n)
	}
	runtime.KeepAlive(s)
}

// Of a server's four sessions no more is held than what lies there, is queued or is ready.
func TestLittleHeld(t *testing.T) {
	start := inUse()
	var l []*server.Server
	for range 200 {
		s := server.New(1000)
		l = append(l, s)
		for range 4 {
			id, _ := s.Connect()
			for range 100 {
				s.Bytes(id, []byte(strings.Repeat("\x00\x00", 4)))
				for s.Step(id) {
				}
			}
			if n := len(s.Out(id)); n != 400*len(frame.Response(api.Response{})) {
				t.Fatalf("P1202: %d bytes", n)
			}
		}
	}
	if now := inUse(); now > start+200*4*1500 {
		t.Errorf("%d bytes are held of %d sessions with nothing", now-start, 4*len(l))
	}
	runtime.KeepAlive(l)
}
