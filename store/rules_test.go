package store_test

import (
	"fmt"
	"math"
	"math/rand"
	"runtime"
	"slices"
	"strings"
	"sync"
	"testing"
	"unsafe"

	"letterpress/api"
	"letterpress/store"
)

// held is a text whose bytes the test can change.
func held(s string) (string, func()) {
	b := []byte(s)
	return unsafe.String(unsafe.SliceData(b), len(b)), func() {
		for i := range b {
			b[i] = '!'
		}
	}
}

// wild does what is not spoken of: keys twice in a Commit, stamps of all kinds; all that was answered.
func wild(limit int, seed int64) string {
	d := rand.New(rand.NewSource(seed))
	s := store.New(limit)
	var l []string
	stamp := func() int {
		ends := []int{math.MinInt, math.MinInt + 1, -1, 0, math.MaxInt - 1, math.MaxInt}
		if d.Intn(3) == 0 {
			return ends[d.Intn(len(ends))]
		}
		return d.Intn(s.Now()+3) - 1
	}
	keys := []string{"", "a", "b"}
	for range 200 {
		switch d.Intn(6) {
		case 0, 1:
			var w []store.Write
			for range d.Intn(6) {
				w = append(w, store.Write{Key: keys[d.Intn(3)], Value: fmt.Sprint(d.Intn(9)), Gone: d.Intn(3) == 0})
			}
			at, e := s.Commit(w)
			l = append(l, fmt.Sprint("commit ", at, e))
		case 2:
			l = append(l, fmt.Sprint("pin ", s.Pin()))
		case 3:
			s.Unpin(stamp())
		case 4:
			l = append(l, fmt.Sprint("clean ", s.Clean(), s.Clean()))
		case 5:
			key := keys[d.Intn(3)]
			l = append(l, read(s, key, stamp()), fmt.Sprint(s.Changed(key, stamp())))
		}
		l = append(l, fmt.Sprint(s.Now(), s.Count()))
	}
	return strings.Join(l, "\n")
}

// P1, P8, P3: whatever is handed in, each call ends, and the same calls answer the same.
func TestWild(t *testing.T) {
	for seed := range int64(300) {
		for _, limit := range []int{math.MinInt, -1, 0, 1, 20, math.MaxInt} {
			if a, b := wild(limit, seed), wild(limit, seed); a != b {
				t.Fatalf("P3: limit %d, seed %d", limit, seed)
			}
		}
	}
}

// P1, P8: a key that a Commit has twice, and a limit below 0, leave a store that goes on.
func TestTwice(t *testing.T) {
	for _, last := range []store.Write{put("a", "2"), gone("a")} {
		s := store.New(3)
		s.Commit([]store.Write{put("a", "1"), put("a", "1"), last})
		if s.Now() != 1 || s.Count() < 1 || s.Count() > 3 {
			t.Errorf("P8: Now %d, Count %d", s.Now(), s.Count())
		}
		n := s.Count()
		if went := s.Clean(); s.Count() != n-went || s.Clean() != 0 {
			t.Errorf("P8: of %d %d went, %d are left", n, went, s.Count())
		}
	}
	s := store.New(-1)
	s.Commit([]store.Write{put("a", "1")})
	if s.Count() != 0 {
		t.Errorf("P8: %d", s.Count())
	}
}

// P2: what is handed in is not changed, nor what is behind it.
func TestUnchanged(t *testing.T) {
	w := []store.Write{put("a", "1"), gone("b"), {Key: "c", Value: "x", Gone: true}, put("behind", "behind"), put("more", "more")}
	was := slices.Clone(w)
	for _, limit := range []int{0, 2, 3, 100} {
		s := store.New(limit)
		s.Commit(w[:3])
		s.Commit(w[:3:3])
		if !slices.Equal(w, was) {
			t.Errorf("P2: limit %d: %v became %v", limit, was, w)
		}
		if s.Changed("behind", -1) {
			t.Error("P2: what is behind a list was looked at")
		}
	}
}

// P2: what was handed in is not kept: the list, keys, values, also those of a key that is there already.
func TestNotKept(t *testing.T) {
	b := newPair(t, 100)
	keys := []string{"key", "other", "third"}
	for i := range 4 {
		for _, key := range keys {
			k, spoilKey := held(key)
			v, spoilValue := held(fmt.Sprint("value ", i))
			w := []store.Write{{Key: k, Value: v, Gone: i == 2}}
			b.s.Commit(w)
			b.s.Read(k, i)
			b.s.Changed(k, i)
			w[0] = put("none", "none")
			spoilKey()
			spoilValue()
			x := put(key, fmt.Sprint("value ", i))
			x.Gone = i == 2
			b.p.commit([]store.Write{x})
		}
		b.look(append(keys, "none", "!!!", "!!!!!"))
	}
	b.clean()
	b.look(append(keys, "none", "!!!", "!!!!!"))
}

// P2: each answer is new memory.
func TestNewMemory(t *testing.T) {
	s := store.New(100)
	s.Commit([]store.Write{put("a", "value")})
	x, _ := s.Read("a", 1)
	y, _ := s.Read("a", 1)
	if unsafe.StringData(x) == unsafe.StringData(y) {
		t.Error("P2: two answers share memory")
	}
	copy(unsafe.Slice(unsafe.StringData(x), len(x)), "other")
	if got := read(s, "a", 1); got != `"value" true` {
		t.Errorf("P2: an answer was kept: %s", got)
	}
}

// P5: a Commit that is Full is as if it had never been.
func TestFullChangesNothing(t *testing.T) {
	d := rand.New(rand.NewSource(73))
	keys := []string{"a", "b", "c"}
	for range 200 {
		limit := 4 + d.Intn(6)
		b := newPair(t, limit)
		for range 40 {
			play(b, d, keys)
			var many []store.Write
			for i := range limit + 1 - b.s.Count() {
				many = append(many, store.Write{Key: fmt.Sprint(keys[i%3], i/3)[:1+i/3%2], Value: "full", Gone: i%2 == 0})
			}
			if at, e := b.s.Commit(many); at != 0 || e != api.Full {
				t.Fatalf("P701: %d of %d, %d more: %d, %v", b.s.Count(), limit, len(many), at, e)
			}
			b.look(append(keys, "a0", "b1"))
		}
	}
}

// P7: stores side by side, one moved behind the other, and each of them in a goroutine of its own.
func TestSideBySide(t *testing.T) {
	keys := []string{"a", "b", "c"}
	var l []*pair
	for i := range 6 {
		l = append(l, newPair(t, 5*i))
	}
	d := rand.New(rand.NewSource(74))
	for range 500 {
		play(l[d.Intn(len(l))], d, keys)
	}
	for _, b := range l {
		b.look(keys)
	}
	want := wild(50, 7)
	answers := make([]string, 8)
	var g sync.WaitGroup
	for i := range answers {
		g.Go(func() { answers[i] = wild(50, 7) })
	}
	g.Wait()
	for _, got := range answers {
		if got != want {
			t.Error("P7: one store touched another")
		}
	}
}

func inUse() uint64 {
	var m runtime.MemStats
	runtime.GC()
	runtime.ReadMemStats(&m)
	return m.HeapAlloc
}

// T5: what Clean took is not held any more, whether it goes at once, bit by bit, or each with its key; nor is a value that is gone from the first.
func TestNotHeld(t *testing.T) {
	const n, size = 400, 1 << 16
	big := strings.Repeat("v", size)
	s := store.New(n * 4)
	start := inUse()
	for i := range n {
		s.Commit([]store.Write{put("a", big), put(fmt.Sprint(i), big), {Key: "gone", Value: big, Gone: true}})
		s.Commit([]store.Write{gone(fmt.Sprint(i))})
		if i >= n/2 {
			s.Clean()
			continue
		}
		s.Pin()
		if i == n/2-1 {
			for at := range n/2 + 2 {
				s.Unpin(2 * at)
				if at%3 == 0 {
					s.Clean()
				}
			}
		}
	}
	if now := inUse(); now > start+20*size {
		t.Errorf("%d bytes are held of %d versions", now-start, s.Count())
	}
	if s.Clean(); s.Count() != 1 {
		t.Errorf("P702: %d are left", s.Count())
	}
	runtime.KeepAlive(s)
}

// T5: nor is the lesser part of a key's values, when only that went, nor the keys of which nothing is left.
func TestPartsNotHeld(t *testing.T) {
	const n, size = 100, 1 << 16
	big := strings.Repeat("v", size)
	start := inUse()
	s := store.New(n)
	for i := range n {
		s.Commit([]store.Write{put("a", big)})
		if i == n*2/5 {
			s.Pin()
		}
	}
	s.Clean()
	if now := inUse(); s.Count() != n*3/5 || now > start+uint64(s.Count()+5)*size {
		t.Errorf("%d bytes are held of %d versions", now-start, s.Count())
	}
	runtime.KeepAlive(s)

	start = inUse()
	s = store.New(n)
	var w []store.Write
	for i := range n {
		w = append(w, gone(fmt.Sprint(i, big)))
	}
	s.Commit(w)
	s.Clean()
	clear(w)
	if now := inUse(); s.Count() != 0 || now > start+5*size {
		t.Errorf("%d bytes are held of %d versions", now-start, s.Count())
	}
	runtime.KeepAlive(s)
}

// T5: nor is the room of many versions, when few are left of them.
func TestRoom(t *testing.T) {
	const n, step = 100000, 1000
	start := inUse()
	s := store.New(n)
	for i := range n {
		s.Commit([]store.Write{put("a", "")})
		if i%step == 0 {
			s.Pin()
		}
	}
	for i := 0; i < n; i += step {
		s.Unpin(i + 1)
		s.Clean()
	}
	if now := inUse(); s.Count() != 1 || now > start+1<<18 {
		t.Errorf("%d bytes are held of %d versions", now-start, s.Count())
	}
	runtime.KeepAlive(s)
}
