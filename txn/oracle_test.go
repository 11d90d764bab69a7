package txn_test

import (
	"fmt"
	"math/rand"
	"slices"
	"strconv"
	"strings"
	"testing"

	"letterpress/api"
	"letterpress/incr"
	"letterpress/store"
	"letterpress/txn"
	"letterpress/work"
)

// plain is a request on its way, chapter 10 written a second time, as its words stand: at each Step it is looked anew which keys are to be read, and a work is made of what was read.
type plain struct {
	s     *store.Store
	b     *incr.Builder
	r     api.Request
	tries int
	under bool // a try is under way
	over  bool
	at    int
	read  []pairOfKey
}

type pairOfKey struct {
	key, value string
	is         bool
}

// got is what was read of a key.
func (p *plain) got(key string) (string, bool) {
	for _, x := range p.read {
		if x.key == key {
			return x.value, x.is
		}
	}
	return "", false
}

// names are the lines of a key's value.
func (p *plain) names(key string) []string {
	value, _ := p.got(key)
	return lines(value)
}

func lines(s string) []string {
	l := strings.Split(s, "\n")
	return l[:len(l)-1]
}

// keys are those that the try reads, as far as what it has read tells.
func (p *plain) keys() []string {
	switch p.r.Kind {
	case 1, 2:
		return []string{"d"}
	case 3:
		if slices.Contains(p.names("d"), p.r.Name) {
			return []string{"d", "f" + p.r.Name}
		}
		return []string{"d"}
	case 4:
		return []string{"f" + p.r.Name}
	case 5, 6:
		return []string{"e"}
	}
	l := []string{"d", "e"}
	for _, name := range p.names("d") {
		l = append(l, "f"+name)
	}
	for _, name := range p.names("e") {
		l = append(l, "s"+name)
	}
	return l
}

func (p *plain) step() (d txn.Done, is bool) {
	if p.over {
		return d, false
	}
	if !work.Right(p.r) {
		p.over = true
		return txn.Done{R: api.Response{E: api.BadFrame}}, true
	}
	if !p.under {
		p.tries++
		p.at, p.under, p.read = p.s.Pin(), true, nil
	}
	if keys := p.keys(); len(p.read) < len(keys) {
		key := keys[len(p.read)]
		value, is := p.s.Read(key, p.at)
		p.read = append(p.read, pairOfKey{key, value, is})
		return d, false
	}
	d, p.over = p.end()
	p.s.Unpin(p.at)
	p.s.Clean()
	p.under = false
	return d, p.over
}

func (p *plain) end() (txn.Done, bool) {
	w := p.work()
	if p.r.Kind == 7 {
		p.b.Build(w.Frags(), w.Syms())
	}
	a := w.Do(p.r)
	if a.E != api.OK || p.r.Kind == 4 || p.r.Kind == 7 {
		return txn.Done{R: a, Stamp: p.at}, true
	}
	for _, x := range p.read {
		if p.s.Changed(x.key, p.at) && p.tries == 3 {
			return txn.Done{R: api.Response{E: api.Busy}}, true
		}
		if p.s.Changed(x.key, p.at) {
			return txn.Done{}, false
		}
	}
	at, e := p.s.Commit(p.writes(w))
	if e != api.OK {
		return txn.Done{R: api.Response{E: e}}, true
	}
	return txn.Done{R: a, Stamp: at, Wrote: true}, true
}

// work is one with all that was read, and no more.
func (p *plain) work() *work.Work {
	w := work.New()
	for _, name := range p.names("d") {
		text, _ := p.got("f" + name)
		w.Do(put(name, text))
	}
	for _, name := range p.names("e") {
		digits, _ := p.got("s" + name)
		value, _ := strconv.Atoi(digits)
		w.Do(define(name, value))
	}
	if text, is := p.got("f" + p.r.Name); is && p.r.Kind == 4 {
		w.Do(put(p.r.Name, text))
	}
	return w
}

// writes are what is written of a work, behind the request.
func (p *plain) writes(w *work.Work) []store.Write {
	frags, syms, text := "", "", ""
	for _, x := range w.Frags() {
		frags += x.Name + "\n"
		if x.Name == p.r.Name {
			text = x.Text
		}
	}
	for _, x := range w.Syms() {
		syms += x.Name + "\n"
	}
	thing := store.Write{Key: "f" + p.r.Name, Value: text}
	list := store.Write{Key: "d", Value: frags}
	if p.r.Kind > 4 {
		thing = store.Write{Key: "s" + p.r.Name, Value: fmt.Sprint(p.r.Value)}
		list = store.Write{Key: "e", Value: syms}
	}
	switch {
	case p.r.Kind == 2, p.r.Kind == 6:
		thing = store.Write{Key: thing.Key, Gone: true}
		return []store.Write{thing, list}
	case slices.Contains(p.names(list.Key), p.r.Name):
		return []store.Write{thing}
	}
	return []store.Write{thing, list}
}

func (p *plain) drop() {
	if p.under {
		p.s.Unpin(p.at)
	}
	p.under, p.over = false, true
}

// told is all of an answer.
func told(d txn.Done, is bool) string {
	return fmt.Sprintf("%v %d %v %d %q %x %v", is, d.Stamp, d.Wrote, int(d.R.E), d.R.Text, d.R.Image, d.R.Diags)
}

// held is what a store has of these names' keys at a stamp.
func held(s *store.Store, at int, names []string) string {
	var b strings.Builder
	keys := []string{"d", "e"}
	for _, name := range names {
		keys = append(keys, "f"+name, "s"+name)
	}
	for _, key := range keys {
		if value, is := s.Read(key, at); is {
			fmt.Fprintf(&b, "%s %q, ", key, value)
		}
	}
	return b.String()
}

// desk is a store and a builder that requests go through, each request with what it must be like. The other store and builder are those of what they must be like.
type desk struct {
	t         *testing.T
	s, other  *store.Store
	b, otherB *incr.Builder
	names     []string // whose keys are looked at
	seen      map[string]bool
	l         []string // what was done
}

func newDesk(t *testing.T, limit int) *desk {
	return &desk{t: t, s: store.New(limit), other: store.New(limit), b: incr.New(), otherB: incr.New(), seen: map[string]bool{}}
}

// one is a request that goes through a desk.
type one struct {
	y *desk
	x *txn.Txn
	p *plain
}

func (y *desk) begin(r api.Request) *one {
	if !y.seen[r.Name] {
		y.seen[r.Name] = true
		y.names = append(y.names, r.Name)
	}
	y.note("begin %d %.20q %.20q %d", r.Kind, r.Name, r.Text, r.Value)
	x := &one{y, txn.Begin(y.s, y.b, r), &plain{s: y.other, b: y.otherB, r: r}}
	x.same()
	return x
}

// step holds what a Step tells, and what may be asked behind it, against one another.
func (x *one) step() (txn.Done, bool) {
	x.y.t.Helper()
	x.y.note("step %d %.20q", x.p.r.Kind, x.p.r.Name)
	d, is := x.x.Step()
	want, over := x.p.step()
	if got, want := told(d, is), told(want, over); got != want {
		x.y.t.Fatalf("P1002: %s: %.400s, not %.400s", x.y.done(), got, want)
	}
	x.same()
	return d, is
}

func (x *one) drop() {
	x.y.t.Helper()
	x.y.note("drop %d %.20q", x.p.r.Kind, x.p.r.Name)
	x.x.Drop()
	x.p.drop()
	x.same()
}

func (x *one) same() {
	x.y.t.Helper()
	if got, want := x.x.Tries(), x.p.tries; got != want {
		x.y.t.Fatalf("P1003: %s: %d tries, not %d", x.y.done(), got, want)
	}
	x.y.look()
}

// look holds the stores and the builders against one another. What is pinned shows in what there is behind a Clean.
func (y *desk) look() {
	y.t.Helper()
	if got, want := fmt.Sprint(y.s.Now(), y.s.Count()), fmt.Sprint(y.other.Now(), y.other.Count()); got != want {
		y.t.Fatalf("P1002: %s: stamp and count %s, not %s", y.done(), got, want)
	}
	if got, want := fmt.Sprint(y.b.Parsed(), y.b.Held()), fmt.Sprint(y.otherB.Parsed(), y.otherB.Held()); got != want {
		y.t.Fatalf("P1002: %s: the builder parsed and holds %s, not %s", y.done(), got, want)
	}
	if got, want := held(y.s, y.s.Now(), y.names), held(y.other, y.other.Now(), y.names); got != want {
		y.t.Fatalf("P1002: %s: %.900s, not %.900s", y.done(), got, want)
	}
}

// both does with either store what others may do.
func (y *desk) both(what string, f func(*store.Store) int) {
	y.t.Helper()
	y.note("%s", what)
	if got, want := f(y.s), f(y.other); got != want {
		y.t.Fatalf("P1002: %s: %d, not %d", y.done(), got, want)
	}
	y.look()
}

func (y *desk) clean() { y.both("clean", (*store.Store).Clean) }

func (y *desk) commit(w ...store.Write) {
	y.both(fmt.Sprintf("commit %.60q", fmt.Sprint(w)), func(s *store.Store) int {
		at, _ := s.Commit(w)
		return at
	})
}

// whole does a request without anything between: what it is answered, and behind how many Steps.
func (y *desk) whole(r api.Request) (txn.Done, int) {
	y.t.Helper()
	x := y.begin(r)
	for n := 1; n < 1000; n++ {
		if d, is := x.step(); is {
			x.step()
			return d, n
		}
	}
	y.t.Fatalf("T6: %s: it does not end", y.done())
	return txn.Done{}, 0
}

func (y *desk) note(form string, l ...any) { y.l = append(y.l, fmt.Sprintf(form, l...)) }

func (y *desk) done() string { return strings.Join(y.l[max(0, len(y.l)-12):], ", ") }

func put(name, text string) api.Request {
	return api.Request{Kind: api.RPut, Name: name, Text: text}
}
func del(name string) api.Request { return api.Request{Kind: api.RDel, Name: name} }
func more(name, text string) api.Request {
	return api.Request{Kind: api.RAppend, Name: name, Text: text}
}
func show(name string) api.Request { return api.Request{Kind: api.RShow, Name: name} }
func define(name string, value int) api.Request {
	return api.Request{Kind: api.RDefine, Name: name, Value: value}
}
func undef(name string) api.Request { return api.Request{Kind: api.RUndef, Name: name} }

var build = api.Request{Kind: api.RBuild}

func pick[T any](d *rand.Rand, l ...T) T { return l[d.Intn(len(l))] }

// author writes requests.
type author struct {
	d     *rand.Rand
	names []string // of fragments and of symbols
	wrong int      // of 100 requests so many are wrong ones
	kinds []int    // some kinds more often than others
}

func newAuthor(d *rand.Rand) *author {
	names := []string{"a", "b", "a_", "d", "e", "_", "r", "r1a", "z", "twelve_bytes", "f", "s", "x", "y", "sa", "fa"}
	d.Shuffle(len(names), func(i, j int) { names[i], names[j] = names[j], names[i] })
	kinds := pick(d, []int{1, 2, 3, 4, 5, 6, 7}, []int{1, 1, 1, 2, 3, 3, 5, 5, 5, 6, 7}, []int{1, 1, 2, 2, 3, 4, 7}, []int{5, 5, 5, 6, 6, 7}, []int{1, 1, 1, 1, 1, 2, 3}, []int{5, 5, 5, 5, 5, 6})
	return &author{d: d, names: names[:pick(d, 1, 2, 3, 8, 10, 16)], wrong: pick(d, 0, 0, 5), kinds: kinds}
}

func (a *author) text() string {
	if a.d.Intn(12) == 0 {
		n := pick(a.d, 600, 600, 599, 300, 301, 100)
		return strings.Repeat(pick(a.d, "x", "\n", "se_blr\n", ".byte x\n", "\xff"), n)[:n]
	}
	s := ""
	for range a.d.Intn(pick(a.d, 2, 3, 6)) {
		s += pick(a.d, "", "se_blr\n", "b x\n", "x: se_sc\n", ".byte s, 1\n", ".byte s\n", "y: .half x\n", "# a remark\n", "no line\n", "\n", "se_li r3, e\n", "bl y", "\x00\xff")
	}
	return s
}

func (a *author) request() api.Request {
	if a.d.Intn(100) < a.wrong {
		return api.Request{Kind: pick(a.d, -1, 0, 1, 3, 5, 7, 8), Name: pick(a.d, "", "r1", "a", "thirteen_byte", "a\n"), Text: pick(a.d, "", "x", strings.Repeat("x", 601)), Value: pick(a.d, 0, 1, 1<<40+1)}
	}
	r := api.Request{Kind: pick(a.d, a.kinds...)}
	if r.Kind != 7 {
		r.Name = pick(a.d, a.names...)
	}
	if r.Kind == 1 || r.Kind == 3 {
		r.Text = a.text()
	}
	if r.Kind == 5 {
		r.Value = pick(a.d, 0, 1, 2, 3, 7, -1, 31, 256, -129, 1<<40, -1<<40)
	}
	return r
}
