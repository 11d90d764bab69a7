package store_test

import (
	"fmt"
	"math/rand"
	"testing"

	"letterpress/store"
)

// moves are what may be done to a store of two keys; an Unpin is of 0, of 1, of the last stamp.
var moves = []func(b *pair){
	func(b *pair) { b.commit(put("a", fmt.Sprint(b.p.now))) },
	func(b *pair) { b.commit(gone("a")) },
	func(b *pair) { b.commit(gone("b"), put("a", "x")) },
	func(b *pair) { b.commit(put("b", "")) },
	func(b *pair) { b.pin() },
	func(b *pair) { b.unpin(b.p.now) },
	func(b *pair) { b.unpin(1) },
	func(b *pair) { b.unpin(0) },
	func(b *pair) { b.clean() },
}

// P701 to P703: all rows of six moves, and what may be asked behind them.
func TestAllShortPlays(t *testing.T) {
	const length = 6
	rows := 1
	for range length {
		rows *= len(moves)
	}
	for row := range rows {
		b := newPair(t, 4)
		for n, i := row, 0; i < length; n, i = n/len(moves), i+1 {
			moves[n%len(moves)](b)
		}
		b.look([]string{"a", "b"})
		b.clean()
		b.look([]string{"a", "b"})
	}
}

// someOf is writes of some of the keys, none twice.
func someOf(d *rand.Rand, keys []string, most int) []store.Write {
	var w []store.Write
	for _, i := range d.Perm(len(keys))[:d.Intn(min(most, len(keys))+1)] {
		if d.Intn(3) == 0 {
			w = append(w, gone(keys[i]))
		} else {
			w = append(w, put(keys[i], fmt.Sprint(d.Intn(1000))))
		}
	}
	return w
}

// play does one thing that is thrown; the pins stay few, so that Clean gets on.
func play(b *pair, d *rand.Rand, keys []string) {
	switch n := d.Intn(10); {
	case n < 4:
		b.commit(someOf(d, keys, 4)...)
	case n < 6 && len(b.p.pins) < 6:
		b.pin()
	case n < 8 && len(b.p.pins) > 0:
		b.unpin(b.p.pins[d.Intn(len(b.p.pins))])
	case n == 8:
		b.unpin(d.Intn(b.p.now+3) - 1)
	default:
		b.clean()
	}
}

// P701 to P703: long plays, each asked all over often.
func TestPlays(t *testing.T) {
	d := rand.New(rand.NewSource(71))
	keys := []string{"", "a", "b", "c", "d", "e", "f", "g", "h"}
	for round := range 150 {
		some := keys[:1+round%len(keys)]
		b := newPair(t, d.Intn(60))
		for i := range 120 {
			play(b, d, some)
			if i%5 == 0 {
				b.look(some)
			}
		}
		b.look(keys)
	}
}

// P701 to P703: many keys, of which Clean is to take what it must, and only that.
func TestManyKeys(t *testing.T) {
	d := rand.New(rand.NewSource(72))
	var keys []string
	for i := range 60 {
		keys = append(keys, fmt.Sprintf("k%d", i))
	}
	for range 5 {
		b := newPair(t, 400)
		for i := range 600 {
			play(b, d, keys)
			if i%100 == 99 {
				b.look(keys)
			}
		}
		for _, at := range b.p.pins {
			b.unpin(at)
			b.clean()
		}
		b.look(keys)
	}
}

// P702: many versions of one key go one by one, as the least pinned stamp rises.
func TestSlowly(t *testing.T) {
	const n = 30000
	s := store.New(2 * n)
	for i := range n {
		s.Commit([]store.Write{put("a", fmt.Sprint(i)), put(fmt.Sprint(i), "")})
		s.Pin()
	}
	for at := 1; at <= n; at++ {
		if got, want := read(s, "a", at), fmt.Sprintf(`"%d" true`, at-1); got != want {
			t.Fatalf("P703: at %d: %s, not %s", at, got, want)
		}
		s.Unpin(at)
		want := 1
		if at == n {
			want = 0
		}
		if went := s.Clean(); went != want || s.Clean() != 0 {
			t.Fatalf("P702: behind Unpin(%d): %d went", at, went)
		}
	}
	if s.Count() != n+1 {
		t.Errorf("P701: %d", s.Count())
	}
}

// P1, P701 to P703: what else there is, a byte a move.
func FuzzPlays(f *testing.F) {
	f.Add([]byte{})
	f.Add([]byte{0, 4, 1, 8, 6, 8})
	f.Add([]byte{2, 4, 3, 0, 4, 1, 1, 8, 5, 8, 7, 8})
	f.Fuzz(func(t *testing.T, l []byte) {
		b := newPair(t, 6)
		for _, c := range l[:min(len(l), 60)] {
			moves[int(c)%len(moves)](b)
			b.look([]string{"a", "b", "c"})
		}
	})
}
