package store_test

import (
	"fmt"
	"slices"
	"testing"

	"letterpress/api"
	"letterpress/store"
)

// one is a version: what a key was from a stamp on.
type one struct {
	store.Write
	at int
}

// plain is chapter 7 written a second time, as its words stand: one list of all versions, one of all pins.
type plain struct {
	limit, now int
	list       []one
	ever       []one // also those that Clean took
	pins       []int
	low        int // below which Clean has gone
}

func (p *plain) commit(w []store.Write) (int, api.Errno) {
	if len(p.list)+len(w) > p.limit {
		return 0, api.Full
	}
	p.now++
	for _, x := range w {
		p.list = append(p.list, one{x, p.now})
		p.ever = append(p.ever, one{x, p.now})
	}
	return p.now, api.OK
}

// newest is the place of the key's newest version in l whose stamp is no more than at, or -1.
func newest(l []one, key string, at int) int {
	best := -1
	for i, x := range l {
		if x.Key == key && x.at <= at && (best < 0 || x.at > l[best].at) {
			best = i
		}
	}
	return best
}

func reads(l []one, key string, at int) (string, bool) {
	i := newest(l, key, at)
	if i < 0 || l[i].Gone {
		return "", false
	}
	return l[i].Value, true
}

func (p *plain) changed(key string, since int) bool {
	i := newest(p.list, key, p.now)
	return i >= 0 && p.list[i].at > since
}

func (p *plain) pin() int {
	p.pins = append(p.pins, p.now)
	return p.now
}

func (p *plain) unpin(at int) {
	if i := slices.Index(p.pins, at); i >= 0 {
		p.pins = slices.Delete(p.pins, i, i+1)
	}
}

func (p *plain) least() int { return slices.Min(append(slices.Clone(p.pins), p.now)) }

func (p *plain) clean() int {
	least := p.least()
	p.low = max(p.low, least)
	var stay []one
	for i, x := range p.list {
		if x.at > least || newest(p.list, x.Key, least) == i && !x.Gone {
			stay = append(stay, x)
		}
	}
	went := len(p.list) - len(stay)
	p.list = stay
	return went
}

// pair is a store and what it must be like.
type pair struct {
	t *testing.T
	s *store.Store
	p *plain
	l []string // what was done
}

func newPair(t *testing.T, limit int) *pair {
	return &pair{t: t, s: store.New(limit), p: &plain{limit: limit}}
}

func (b *pair) did(promise, what string, got, want any) {
	b.t.Helper()
	b.l = append(b.l, what)
	if got != want {
		b.t.Fatalf("%s: %v: %v, not %v", promise, b.l[max(0, len(b.l)-40):], got, want)
	}
}

func (b *pair) commit(w ...store.Write) {
	b.t.Helper()
	at, e := b.s.Commit(w)
	wantAt, wantE := b.p.commit(w)
	b.did("P701", fmt.Sprintf("Commit(%+v)", w), fmt.Sprint(at, int(e)), fmt.Sprint(wantAt, int(wantE)))
}

func (b *pair) pin() {
	b.t.Helper()
	b.did("P702", "Pin", b.s.Pin(), b.p.pin())
}

func (b *pair) unpin(at int) {
	b.s.Unpin(at)
	b.p.unpin(at)
	b.l = append(b.l, fmt.Sprintf("Unpin(%d)", at))
}

func (b *pair) clean() {
	b.t.Helper()
	b.did("P702", "Clean", b.s.Clean(), b.p.clean())
}

// read is what a key is at a stamp.
func read(s *store.Store, key string, at int) string {
	v, is := s.Read(key, at)
	return fmt.Sprintf("%q %v", v, is)
}

// look holds all that may be asked against one another; what is read is held against all versions that there ever were, so that none is missed.
func (b *pair) look(keys []string) {
	b.t.Helper()
	if b.s.Now() != b.p.now || b.s.Count() != len(b.p.list) {
		b.t.Fatalf("P701: %v: Now %d, Count %d, not %d, %d", b.l, b.s.Now(), b.s.Count(), b.p.now, len(b.p.list))
	}
	for _, key := range keys {
		for at := b.p.low; at <= b.p.now+1; at++ {
			v, is := reads(b.p.ever, key, at)
			if got, want := read(b.s, key, at), fmt.Sprintf("%q %v", v, is); got != want {
				b.t.Fatalf("P701, P703: %v: Read(%q, %d): %s, not %s", b.l, key, at, got, want)
			}
		}
		for since := -1; since <= b.p.now+1; since++ {
			if got, want := b.s.Changed(key, since), b.p.changed(key, since); got != want {
				b.t.Fatalf("P701: %v: Changed(%q, %d): %v, not %v", b.l, key, since, got, want)
			}
		}
	}
}
