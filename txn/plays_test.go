package txn_test

import (
	"cmp"
	"fmt"
	"math/rand"
	"slices"
	"strings"
	"testing"

	"letterpress/api"
	"letterpress/store"
	"letterpress/txn"
	"letterpress/work"
)

// record is a request that was answered: when it came, and when it was told.
type record struct {
	r          api.Request
	d          txn.Done
	came, told int
}

// play is several requests on one desk.
type play struct {
	*desk
	clock int
	open  []*one
	came  []int
	l     []record
}

func (p *play) begin(r api.Request) {
	p.clock++
	p.open, p.came = append(p.open, p.desk.begin(r)), append(p.came, p.clock)
}

func (p *play) step(i int) (d txn.Done, is bool) {
	p.t.Helper()
	p.clock++
	x := p.open[i]
	if d, is = x.step(); is {
		p.l = append(p.l, record{x.p.r, d, p.came[i], p.clock})
		p.leave(i)
	}
	return d, is
}

func (p *play) drop(i int) {
	p.open[i].drop()
	p.leave(i)
}

func (p *play) leave(i int) {
	p.open, p.came = slices.Delete(p.open, i, i+1), slices.Delete(p.came, i, i+1)
}

// ordered are those that T1 speaks of, by their stamps; of one stamp the one that wrote is first.
func (p *play) ordered() []record {
	l := slices.DeleteFunc(slices.Clone(p.l), func(x record) bool {
		return x.d.R.E == api.Busy || x.d.R.E == api.Full || x.d.R.E == api.BadFrame
	})
	later := func(x record) int {
		if x.d.Wrote {
			return 0
		}
		return 1
	}
	slices.SortFunc(l, func(x, y record) int {
		return cmp.Or(x.d.Stamp-y.d.Stamp, later(x)-later(y), x.told-y.told)
	})
	return l
}

// oneOrder holds all that was answered against a work that does it at once, and what there is behind it against the store.
func (p *play) oneOrder() {
	p.t.Helper()
	w := work.New()
	latest, stamp := 0, 0
	for _, x := range p.ordered() {
		if got, want := told(x.d, true), told(txn.Done{R: w.Do(x.r), Stamp: x.d.Stamp, Wrote: x.d.Wrote}, true); got != want {
			p.t.Fatalf("P1004: %s: %v: %s, not %s", p.done(), x.r, got, want)
		}
		for _, y := range p.l {
			if y.told < x.came && y.d.Stamp > x.d.Stamp {
				p.t.Fatalf("T1: %v was told %d ahead of %v", y.r, y.d.Stamp, x.r)
			}
		}
		if x.d.Wrote {
			if stamp++; x.d.Stamp != stamp {
				p.t.Fatalf("W4: %v wrote %d, not %d", x.r, x.d.Stamp, stamp)
			}
		}
		latest = max(latest, x.d.Stamp)
	}
	if latest > p.s.Now() || stamp != p.s.Now() {
		p.t.Fatalf("W4: %d of %d", latest, p.s.Now())
	}
	if got, want := held(p.s, p.s.Now(), p.names), heldByWork(p, w); got != want {
		p.t.Fatalf("P1004: %s: %s, not %s", p.done(), got, want)
	}
}

// heldByWork is what the store must have of what a work has.
func heldByWork(p *play, w *work.Work) string {
	s := store.New(100)
	var names [2]string
	for _, f := range w.Frags() {
		s.Commit([]store.Write{{Key: "f" + f.Name, Value: f.Text}})
		names[0] += f.Name + "\n"
	}
	for _, x := range w.Syms() {
		s.Commit([]store.Write{{Key: "s" + x.Name, Value: fmt.Sprint(x.Value)}})
		names[1] += x.Name + "\n"
	}
	for i, key := range []string{"d", "e"} {
		if _, is := p.s.Read(key, p.s.Now()); is || names[i] != "" {
			s.Commit([]store.Write{{Key: key, Value: names[i]}})
		}
	}
	return held(s, s.Now(), p.names)
}

// tally counts what was seen.
type tally map[string]int

func (n tally) note(d txn.Done, kind, tries int) {
	n[fmt.Sprint(kind, " ", d.R.E)]++
	n[fmt.Sprint(kind, " in ", tries)]++
	if len(d.R.Image) > 0 {
		n["image"]++
	}
}

func (n tally) least(t *testing.T, most int, kinds ...string) {
	for _, kind := range kinds {
		if n[kind] < most {
			t.Errorf("%s: %d", kind, n[kind])
		}
	}
}

// P1001 to P1004, T1, T6: several requests side by side, stepped in any order, some of them dropped, held against the second writing Step by Step; all that was answered has one order.
func TestPlays(t *testing.T) {
	d := rand.New(rand.NewSource(101))
	seen := tally{}
	for range 1000 {
		a := newAuthor(d)
		p := &play{desk: newDesk(t, pick(d, 6, 12, 25, 60, 1000))}
		most, drops, lazy := pick(d, 1, 2, 4, 6, 8), pick(d, 0, 0, 20, 100), pick(d, 1, 1, 8, 30)
		for range 300 {
			switch {
			case len(p.open) < most && d.Intn(3) == 0:
				p.begin(a.request())
			case len(p.open) == 0:
			case d.Intn(1000) < drops:
				p.drop(d.Intn(len(p.open)))
				seen["drop"]++
			case d.Intn(100) == 0:
				p.clean()
			default:
				i := d.Intn(len(p.open))
				if i == 0 && d.Intn(lazy) > 0 { // the oldest one is slow
					i = len(p.open) - 1
				}
				x := p.open[i]
				if d, is := p.step(i); is {
					seen.note(d, x.p.r.Kind, x.p.tries)
				}
			}
		}
		for len(p.open) > 0 {
			p.step(d.Intn(len(p.open)))
		}
		p.oneOrder()
		p.clean()
		if got, want := p.s.Count(), strings.Count(held(p.s, p.s.Now(), p.names), `", `); got != want {
			t.Fatalf("P702: %s: Count %d, not %d", p.done(), got, want)
		}
	}
	seen.least(t, 100, "drop", "image", "7 ok", "7 errors", "7 in 1")
	for _, kind := range []int{1, 2, 3, 5, 6} {
		seen.least(t, 5, fmt.Sprint(kind, " busy"))
		for _, what := range []string{"ok", "full", "in 1", "in 2", "in 3"} {
			seen.least(t, 20, fmt.Sprint(kind, " ", what))
		}
	}
	seen.least(t, 50, "1 limit", "3 limit", "5 limit", "2 missing", "3 missing", "4 missing", "6 missing", "4 ok", "4 in 1", "0 frame", "7 frame")
	if seen["4 in 2"]+seen["7 in 2"]+seen["4 busy"]+seen["7 busy"] > 0 {
		t.Error("P1002: what only reads was tried again")
	}
}

// P1002: with others who write to the store, take back pins and clean, between any two Steps.
func TestPlaysAmongOthers(t *testing.T) {
	d := rand.New(rand.NewSource(102))
	for range 300 {
		a := newAuthor(d)
		p := &play{desk: newDesk(t, pick(d, 12, 40, 1000))}
		for range 200 {
			switch {
			case len(p.open) < 5 && d.Intn(3) == 0:
				p.begin(a.request())
			case len(p.open) == 0:
			case d.Intn(8) == 0:
				names := slices.Clone(a.names[:d.Intn(min(7, len(a.names))+1)])
				slices.Sort(names)
				name := pick(d, a.names...)
				p.commit(pick(d,
					store.Write{Key: "d", Value: txn.Join(names)}, store.Write{Key: "e", Value: txn.Join(names)}, store.Write{Key: "d", Gone: true}, store.Write{Key: "e", Gone: true},
					store.Write{Key: "f" + name, Value: a.text()}, store.Write{Key: "f" + name, Gone: true}, store.Write{Key: "s" + name, Value: fmt.Sprint(d.Intn(9) - 4)}, store.Write{Key: "s" + name, Gone: true}))
			case d.Intn(20) == 0:
				p.both("unpin", func(s *store.Store) int { s.Unpin(p.open[0].p.at); return 0 })
			case d.Intn(20) == 0:
				p.both("pin", (*store.Store).Pin)
			case d.Intn(10) == 0:
				p.clean()
			case d.Intn(40) == 0:
				p.drop(d.Intn(len(p.open)))
			default:
				p.step(d.Intn(len(p.open)))
			}
		}
	}
}

// P1004: each two of these requests, in each order of their Steps, with a drop in some.
func TestAllPairs(t *testing.T) {
	const length = 7
	requests := []api.Request{put("a", ".byte 3"), put("b", ".byte n"), del("a"), more("a", ", n"), more("b", ""), show("a"), show("b"), define("n", 1), define("m", 2), undef("n"), build}
	seen := tally{}
	for _, q := range requests {
		for _, r := range requests {
			for order := range 1 << length {
				p := &play{desk: newDesk(t, 1000)}
				if order&1 == 0 {
					p.l = append(p.l, p.ahead(put("a", ".byte n")), p.ahead(define("n", 7)))
				}
				x, y := p.desk.begin(q), p.desk.begin(r)
				p.open, p.came = []*one{x, y}, []int{p.clock, p.clock}
				for i := range length {
					if at := slices.Index(p.open, []*one{x, y}[order>>i&1]); at >= 0 {
						p.step(at)
					}
				}
				for len(p.open) > 0 {
					p.step(0)
				}
				p.oneOrder()
				seen[fmt.Sprint(x.p.tries)]++
			}
		}
	}
	seen.least(t, 200, "1", "2")
}

// ahead does a request whole.
func (p *play) ahead(r api.Request) record {
	d, _ := p.desk.whole(r)
	p.clock++
	return record{r, d, p.clock, p.clock}
}

// T6: a request that is stepped on is answered, whatever the others do, behind three times as many Steps as a try has.
func TestInTheEnd(t *testing.T) {
	for _, r := range []api.Request{put("b", "x"), del("b"), more("b", "x"), show("b"), define("m", 3), undef("m"), build, {}} {
		y := filled(t, 10000)
		x := y.begin(r)
		for n := 1; ; n++ {
			for i := range 3 {
				y.commit(store.Write{Key: "d", Value: "a\nb\n"}, store.Write{Key: "e", Value: "m\nn\n"}, store.Write{Key: "fb", Value: fmt.Sprint(i)})
			}
			d, is := x.step()
			if is {
				if most := map[int]int{0: 1, 3: 9, 4: 2, 7: 7}[r.Kind]; n != most && (most != 0 || n != 6) {
					t.Errorf("T6: %v: %v behind %d Steps", r, d, n)
				}
				break
			}
		}
	}
}

// P1, P1001 to P1004: whatever else there is: of each byte of moves one.
func FuzzPlays(f *testing.F) {
	for _, s := range []string{"", "b x", "x: .byte y\n", "x y", ".equ x, y\n.align x"} {
		f.Add(s, "x: se_blr", "x", "f", 1, 20, []byte{1, 0x11, 5, 7, 3, 0x13, 4, 7, 2, 6, 7, 0x88, 0x98, 0xa8, 0x88, 0xf9})
	}
	f.Fuzz(func(t *testing.T, first, second, name, other string, value, limit int, moves []byte) {
		p := &play{desk: newDesk(t, limit)}
		for i, c := range moves[:min(len(moves), 60)] {
			if c >= 0x80 {
				if len(p.open) > 0 && c&15 < 14 {
					p.step(int(c>>4&7) % len(p.open))
				} else if len(p.open) > 0 {
					p.drop(int(c>>4&7) % len(p.open))
				}
				continue
			}
			r := api.Request{Kind: int(c & 15)}
			if r.Kind != api.RBuild || c == 0x77 {
				r.Name = []string{name, other, "a", fmt.Sprint("n", i)}[c>>4&3]
			}
			if r.Kind == api.RPut || r.Kind == api.RAppend || c == 0x74 {
				r.Text = []string{first, second}[c>>6&1]
			}
			if r.Kind == api.RDefine || c == 0x76 {
				r.Value = value + i
			}
			p.begin(r)
		}
		for len(p.open) > 0 {
			p.step(0)
		}
		p.oneOrder()
	})
}
