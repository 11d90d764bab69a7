package server_test

import (
	"fmt"
	"math"
	"math/rand"
	"slices"
	"strings"
	"testing"

	"letterpress/api"
	"letterpress/frame"
	"letterpress/server"
)

// author writes what sessions send.
type author struct {
	d     *rand.Rand
	names []string
	kinds []int
	wrong int // of 1000 requests so many are none
	large int // of 1000 so many have Large behind them
}

func newAuthor(d *rand.Rand) *author {
	names := []string{"a", "b", "a_", "r", "twelve_bytes", "x", "y", "d", "e", "f", "s", "_"}
	d.Shuffle(len(names), func(i, j int) { names[i], names[j] = names[j], names[i] })
	kinds := pick(d, []int{1, 2, 3, 4, 5, 6, 7}, []int{1, 1, 2, 3, 3, 4, 5, 5, 6, 7}, []int{1, 1, 1, 2, 3, 7}, []int{5, 5, 5, 6, 7})
	return &author{d: d, names: names[:pick(d, 1, 2, 3, 9, 12)], kinds: kinds, wrong: pick(d, 0, 20, 200), large: pick(d, 0, 0, 0, 10)}
}

func (a *author) text() string {
	if a.d.Intn(12) == 0 {
		n := pick(a.d, 600, 599, 300, 301, 100)
		return strings.Repeat(pick(a.d, "x", "\n", "se_blr\n", "\xff"), n)[:n]
	}
	s := ""
	for range a.d.Intn(pick(a.d, 2, 3, 5)) {
		s += pick(a.d, "", "se_blr\n", "b x\n", "x: se_sc\n", ".byte s, 1\n", "y: .half x\n", "# a remark\n", "no line\n", "bl y", "\x00\xff")
	}
	return s
}

func (a *author) request() api.Request {
	r := api.Request{Kind: pick(a.d, a.kinds...)}
	if r.Kind != api.RBuild {
		r.Name = pick(a.d, a.names...)
	}
	if r.Kind == api.RPut || r.Kind == api.RAppend {
		r.Text = a.text()
	}
	if r.Kind == api.RDefine {
		r.Value = pick(a.d, 0, 1, 2, -1, 256, -129, 1<<40, -1<<40)
	}
	return r
}

// send is what a session sends next: a request, seldom what is none, or is Large.
func (a *author) send() string {
	s := whole(a.request())
	if a.d.Intn(1000) < a.wrong {
		b := []byte(s)
		switch a.d.Intn(4) {
		case 0:
			b[2+a.d.Intn(len(b)-2)]++
		case 1:
			b[1]--
		case 2:
			b[1]++
		default:
			b = make([]byte, 2+a.d.Intn(3)*200)
			b[0], b[1] = byte((len(b)-2)>>8), byte(len(b)-2)
		}
		s = string(b)
	}
	if a.d.Intn(1000) < a.large {
		s += pick(a.d, "\x03\xe9", "\xff\xff\xff", "\x04\x00")
	}
	return s
}

// client is a session as it is seen from outside: what it has not sent yet.
type client struct {
	id   int
	left string
}

// play is several clients in one hall, with one author.
type play struct {
	*hall
	*author
	open []*client
}

func (p *play) enter() {
	if id, e := p.connect(); e == api.OK {
		p.open = append(p.open, &client{id: id})
	}
}

// miss forgets the clients whose sessions are open no more.
func (p *play) miss() {
	p.open = slices.DeleteFunc(p.open, func(c *client) bool { return !slices.Contains(p.s.Open(), c.id) })
}

func (p *play) send(c *client) {
	for len(c.left) < 20 || p.d.Intn(3) == 0 {
		c.left += p.author.send()
	}
	n := min(len(c.left), pick(p.d, 1, 2, 3, 7, 20, 60, 300, 700, 2000))
	if e := p.bytes(c.id, c.left[:n]); e == api.OK {
		c.left = c.left[n:]
	}
}

func (p *play) move() {
	d := p.d
	if len(p.open) == 0 || d.Intn(40) == 0 {
		p.enter()
		return
	}
	c := pick(d, p.open...)
	switch d.Intn(20) {
	case 0, 1, 2, 3, 4, 5:
		p.send(c)
	case 6:
		p.out(c.id)
	case 7:
		if d.Intn(8) == 0 {
			p.drop(c.id)
		}
	case 8:
		id := pick(d, -1, p.p.born, p.p.born+1, d.Intn(p.p.born))
		switch d.Intn(6) {
		case 0:
			p.step(id)
		case 1:
			p.out(id)
		case 2:
			p.bytes(id, "")
		case 3:
			if d.Intn(4) == 0 {
				p.drop(id)
			}
		}
	case 9:
		p.bytes(c.id, strings.Repeat("\x00", d.Intn(3))+strings.Repeat("x", 2000))
		c.left = ""
	default:
		p.step(c.id)
	}
	p.miss()
}

// rest asks for all that there is, by a session of its own, so that the program too is held against a work that did all at once.
func (p *play) rest() {
	p.t.Helper()
	for _, id := range p.s.Open() {
		p.out(id)
		p.drop(id)
	}
	id, _ := p.connect()
	for _, name := range p.names {
		p.do(id, show(name)+undef(name))
	}
	p.do(id, build)
	p.oneOrder()
}

// P1201 to P1203, T1: sessions that come and go and are stepped in any order, held against the second writing call by call, with little room in the store and with much.
func TestPlays(t *testing.T) {
	d := rand.New(rand.NewSource(121))
	seen := map[string]int{}
	for range 500 {
		h := newHall(t, pick(d, 4, 8, 16, 1000))
		h.seen = seen
		p := &play{hall: h, author: newAuthor(d)}
		for range 400 {
			p.move()
			if d.Intn(50) == 0 {
				p.records()
			}
		}
		p.rest()
	}
	for _, what := range []string{"bytes ok", "bytes missing", "bytes full", "bytes large", "1 ok", "2 ok", "3 ok", "4 ok", "5 ok", "6 ok", "7 ok", "7 errors", "1 limit", "3 limit", "5 limit", "2 missing", "3 missing", "4 missing", "6 missing"} {
		if seen[what] < 40 {
			t.Errorf("%s: %d", what, seen[what])
		}
	}
	for _, what := range []string{"busy", "full", "frame"} {
		for kind := range 8 {
			if n := seen[fmt.Sprint(kind, " ", what)]; n > 0 {
				t.Errorf("%s: %d", what, n)
			}
		}
	}
}

// P1203: sessions that all write to the same few things, so that some are told Busy: what is told Busy, or Full, has done nothing.
func TestCrowds(t *testing.T) {
	d := rand.New(rand.NewSource(122))
	told := map[string]int{}
	for range 300 {
		h := newHall(t, pick(d, 5, 7, 10, 1000))
		a := newAuthor(d)
		a.names = a.names[:1+d.Intn(len(a.names))]
		a.wrong, a.large = 0, 0
		for range 4 {
			h.connect()
		}
		slow := d.Intn(4)
		for range 200 {
			id := d.Intn(4)
			if id == slow && d.Intn(3) > 0 {
				id = (id + 1) % 4
			}
			if h.s.Queued(id) == 0 || d.Intn(8) == 0 {
				h.bytes(id, a.send())
			}
			h.step(id)
			for s := range strings.SplitSeq(answers(t, h.out(id)), ", ") {
				told[s]++
			}
		}
		(&play{hall: h, author: a}).rest()
	}
	if told["busy"] < 50 || told["full"] < 50 {
		t.Errorf("%d busy, %d full", told["busy"], told["full"])
	}
}

// P1203: each order of the Steps of these requests, two each of two sessions.
func TestAllTurns(t *testing.T) {
	l := []string{put("a", ".byte n"), put("b", ""), del("a"), more("a", " "), show("a"), define("n", 1), undef("n"), build}
	const length = 8
	for i, first := range l {
		for _, second := range l {
			for order := range 1 << length {
				h := newHall(t, 1000)
				h.connect()
				h.connect()
				h.bytes(0, first+l[(i+3)%len(l)])
				h.bytes(1, second+first)
				for k := range length {
					h.step(order >> k & 1)
				}
				for h.step(0) || h.step(1) {
				}
				h.oneOrder()
			}
		}
	}
}

// P1201, P1202: all rows of five of these moves, in a new server with one session, and in one with much under way.
func TestAllRows(t *testing.T) {
	const length = 5
	moves := []func(h *hall){
		func(h *hall) { h.connect() },
		func(h *hall) { h.bytes(0, put("a", "x")) },
		func(h *hall) { h.bytes(0, show("a")[:3]) },
		func(h *hall) { h.bytes(0, show("a")[3:]+"\x00\x00") },
		func(h *hall) { h.bytes(1, put("b", "")+show("a")) },
		func(h *hall) { h.bytes(1, "\xff\xff") },
		func(h *hall) { h.step(0) },
		func(h *hall) { h.step(1) },
		func(h *hall) { h.out(0) },
		func(h *hall) { h.drop(0) },
	}
	starts := []func(h *hall){
		func(h *hall) { h.connect() },
		func(h *hall) {
			for range 2 {
				h.connect()
			}
			h.bytes(0, put("a", "y")+build+put("c", "")+show("a")+"\x00\x00\x04\x00")
			h.bytes(1, put("b", "z"))
			h.step(0)
			h.step(1)
		},
	}
	rows := 1
	for range length {
		rows *= len(moves)
	}
	for _, start := range starts {
		for row := range rows {
			h := newHall(t, 5)
			start(h)
			for range length {
				moves[row%len(moves)](h)
				row /= len(moves)
			}
			h.out(0)
			h.out(1)
			h.oneOrder()
		}
	}
}

// P1202: long random lists of records, with many that are alike.
func TestOrders(t *testing.T) {
	d := rand.New(rand.NewSource(123))
	for range 600 {
		l := make([]server.Record, d.Intn(120))
		few := pick(d, 1, 2, 5, 1000)
		for i := range l {
			l[i] = server.Record{Session: d.Intn(4), Came: d.Intn(100), Told: d.Intn(few), Stamp: d.Intn(few), Wrote: d.Intn(2) == 0, Q: api.Request{Kind: d.Intn(8)}, R: api.Response{E: api.Errno(d.Intn(15))}}
			if d.Intn(10) == 0 {
				l[i].Stamp = pick(d, math.MinInt, math.MaxInt, -1, -few)
			}
			if d.Intn(10) == 0 {
				l[i].Told = pick(d, math.MinInt, math.MaxInt, -1, -few)
			}
		}
		if got, want := server.Order(l), plainOrder(l); !slices.Equal(got, want) {
			t.Fatalf("P1202: %v, not %v", got, want)
		}
	}
	// Many, in the order in which they are already, and the other way round.
	l := make([]server.Record, 200000)
	for i := range l {
		l[i].Stamp = i / 7
	}
	for i, k := range server.Order(l) {
		if i != k {
			t.Fatalf("P1202: %d at %d", k, i)
		}
	}
	for i := range l {
		l[i].Told = -i
		l[i].Stamp = 7
	}
	for i, k := range server.Order(l) {
		if i != len(l)-1-k {
			t.Fatalf("P1202: %d at %d", k, i)
		}
	}
}

// T6: a session that is stepped on is answered all that it asked for, whatever the others do.
func TestInTheEnd(t *testing.T) {
	d := rand.New(rand.NewSource(124))
	for range 40 {
		h := newHall(t, 1000)
		a := newAuthor(d)
		a.large = 0
		h.connect()
		h.connect()
		asked, n := "", 0
		for len(asked) < 1200 {
			b := whole(a.request())
			asked += b
			n++
		}
		h.bytes(0, asked)
		steps := 0
		for h.s.Queued(0) > 0 {
			h.do(1, put("a", "")+del("a")+define("a", 1)+undef("a"))
			h.step(0)
			if steps++; steps > n*60 {
				t.Fatalf("T6: %d Steps for %d requests", steps, n)
			}
		}
		got := []byte(h.out(0))
		for range n {
			_, used, is := frame.ReadResponse(got)
			if !is {
				t.Fatalf("T6: %d requests have not as many answers", n)
			}
			got = got[used:]
		}
		if len(got) > 0 {
			t.Fatalf("T6: %q is behind the answers", got)
		}
		h.oneOrder()
	}
}

// P1, P1201 to P1203: whatever comes: of each byte of moves one, with bytes from what is left of the others.
func FuzzPlays(f *testing.F) {
	f.Add(10, []byte("\x20\x21\x22\x08\x28\x30\x38\x0a\x12\x1a\x22\x2a\x33\x3b\x0b\x13\x40\x48\x50\x58"), []byte(put("a", "b b")+show("a")+build+define("n", 3)))
	f.Add(3, []byte("\x20\x60\xa0\xe0\x01\x09\x11\x02\x0a\x03\x0b\x04\x0c\x05\x06\x07"), []byte(put("a", "")+put("b", "")+"\x00\x00\x03\xe9"))
	f.Add(0, []byte("\x00\x01\x02\x03\x04\x05\x06\x07"), []byte("\x00\x00\xff\xff"))
	f.Fuzz(func(t *testing.T, limit int, moves, bytes []byte) {
		h := newHall(t, limit)
		h.connect()
		for _, c := range moves[:min(len(moves), 80)] {
			id := int(c >> 3 & 7)
			switch c & 7 {
			case 0:
				h.connect()
			case 1, 2, 3:
				n := min(len(bytes), int(c>>6)*9+int(c&7))
				if h.bytes(id, string(bytes[:n])) == api.OK {
					bytes = bytes[n:]
				}
			case 4:
				h.out(id)
			case 5:
				if c >= 0xc0 {
					h.drop(id)
				}
			default:
				h.step(id)
			}
		}
		for h.step(0) || h.step(1) {
		}
		h.oneOrder()
	})
}
