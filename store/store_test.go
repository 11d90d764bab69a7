package store_test

import (
	"fmt"
	"math"
	"strings"
	"testing"

	"letterpress/api"
	"letterpress/store"
)

func put(key, value string) store.Write { return store.Write{Key: key, Value: value} }

func gone(key string) store.Write { return store.Write{Key: key, Gone: true} }

func Example() {
	s := store.New(100)
	s.Commit([]store.Write{{Key: "a", Value: "one"}})
	at := s.Pin()
	s.Commit([]store.Write{{Key: "a", Value: "two"}, {Key: "b", Value: "x"}})
	s.Commit([]store.Write{{Key: "a", Gone: true}})
	for at := range s.Now() + 1 {
		v, is := s.Read("a", at)
		fmt.Printf("%d: %q %v\n", at, v, is)
	}
	fmt.Println(s.Changed("a", at), s.Changed("b", 2), s.Count(), s.Clean())
	s.Unpin(at)
	fmt.Println(s.Clean(), s.Count())
	// Output:
	// 0: "" false
	// 1: "one" true
	// 2: "two" true
	// 3: "" false
	// true false 4 0
	// 3 1
}

// P701: a new one. (The chapter's example.)
func TestNew(t *testing.T) {
	for _, limit := range []int{0, 1, 5, math.MaxInt} {
		s := store.New(limit)
		if s.Count() != 0 || s.Now() != 0 {
			t.Errorf("P701: New(%d): Count %d, Now %d", limit, s.Count(), s.Now())
		}
		for _, at := range []int{-1, 0, 1} {
			if got := read(s, "a", at); got != `"" false` || s.Changed("a", at) {
				t.Errorf("P701: New(%d): at %d: %s", limit, at, got)
			}
		}
		if n := s.Clean(); n != 0 {
			t.Errorf("P702: Clean of a new one: %d", n)
		}
		if at := s.Pin(); at != 0 {
			t.Errorf("P702: Pin of a new one: %d", at)
		}
	}
}

// P701: keys that are written several times, gone, and written again, at each stamp.
func TestRead(t *testing.T) {
	s := store.New(100)
	for i, w := range [][]store.Write{
		{put("a", "1"), put("b", "x")},
		{put("a", "2")},
		{gone("a"), put("c", "")},
		nil,
		{put("a", "3"), gone("c"), gone("d")},
		{put("b", "y"), put("d", "z")},
	} {
		if at, e := s.Commit(w); at != i+1 || e != api.OK || s.Now() != i+1 {
			t.Errorf("P701: Commit %d: %d, %v, Now %d", i, at, e, s.Now())
		}
	}
	if s.Count() != 10 {
		t.Errorf("P701: Count %d", s.Count())
	}
	const none = `"" false`
	for key, want := range map[string][]string{
		"a": {none, `"1" true`, `"2" true`, none, none, `"3" true`, `"3" true`, `"3" true`},
		"b": {none, `"x" true`, `"x" true`, `"x" true`, `"x" true`, `"x" true`, `"y" true`, `"y" true`},
		"c": {none, none, none, `"" true`, `"" true`, none, none, none},
		"d": {none, none, none, none, none, none, `"z" true`, `"z" true`},
		"e": {none, none, none, none, none, none, none, none},
	} {
		for at, want := range want {
			if got := read(s, key, at); got != want {
				t.Errorf("P701: Read(%s, %d): %s, not %s", key, at, got, want)
			}
		}
		if got := read(s, key, math.MaxInt); got != want[7] {
			t.Errorf("P701: Read(%s), far on: %s, not %s", key, got, want[7])
		}
		if got := read(s, key, math.MinInt); got != none {
			t.Errorf("P701: Read(%s), far back: %s", key, got)
		}
	}
}

// P701: at the newest version's stamp, one below it, and at the ends of all numbers.
func TestChanged(t *testing.T) {
	s := store.New(100)
	s.Commit([]store.Write{put("a", "1"), put("b", "1")})
	s.Commit(nil)
	s.Commit([]store.Write{put("a", "1")})
	s.Commit([]store.Write{gone("c")})
	for _, x := range []struct {
		key   string
		since int
		want  bool
	}{
		{"a", 3, false}, {"a", 2, true}, {"a", 1, true}, {"a", 0, true}, {"a", 4, false}, {"a", -1, true},
		{"b", 1, false}, {"b", 0, true}, {"b", math.MinInt, true}, {"b", math.MaxInt, false},
		{"c", 4, false}, {"c", 3, true}, // gone is a version, too
		{"d", -1, false}, {"d", math.MinInt, false}, {"", 0, false},
	} {
		if got := s.Changed(x.key, x.since); got != x.want {
			t.Errorf("P701: Changed(%q, %d): %v", x.key, x.since, got)
		}
	}
}

// P701: any text is a key, and none is another one.
func TestKeys(t *testing.T) {
	keys := []string{"", "a", "A", "a ", " a", "a\x00", "\x00", "\xff", "\xff\xfe", "é", "e\u0301", "d", "dd", "\n", strings.Repeat("k", 100000), strings.Repeat("k", 100001)}
	s := store.New(1000)
	var w []store.Write
	for i, key := range keys {
		if s.Changed(key, -1) {
			t.Errorf("P701: %.20q is there", key)
		}
		w = append(w, put(key, fmt.Sprint(i)))
	}
	s.Commit(w)
	s.Commit([]store.Write{gone("a"), put("\xff", "!")})
	for i, key := range keys {
		want := fmt.Sprintf(`"%d" true`, i)
		if got := read(s, key, 1); got != want {
			t.Errorf("P701: %.20q: %s, not %s", key, got, want)
		}
		switch key {
		case "a":
			want = `"" false`
		case "\xff":
			want = `"!" true`
		}
		if got := read(s, key, 2); got != want {
			t.Errorf("P701: %.20q: %s, not %s", key, got, want)
		}
	}
}

// P701: values are any texts; that of a version that is gone is not told.
func TestValues(t *testing.T) {
	s := store.New(100)
	for i, v := range []string{"", "x", "\x00\xff", strings.Repeat("v", 1<<20)} {
		s.Commit([]store.Write{put("a", v)})
		if got, is := s.Read("a", i+1); got != v || !is {
			t.Errorf("P701: %.20q: %.20q, %v", v, got, is)
		}
	}
	s.Commit([]store.Write{{Key: "a", Value: "x", Gone: true}})
	if got := read(s, "a", 5); got != `"" false` {
		t.Errorf("P701, P4: gone: %s", got)
	}
}

// P701, P5: one that has just room, one that has one version too many.
func TestFull(t *testing.T) {
	b := newPair(t, 3)
	keys := []string{"a", "b", "c"}
	b.commit(put("a", "1"), put("b", "1"), put("c", "1"))
	b.look(keys)
	b.commit(put("a", "2"))
	b.commit(gone("a"))
	b.look(keys)
	b.commit()
	b.look(keys)

	b = newPair(t, 3)
	b.commit(put("a", "1"))
	b.commit(gone("a"), put("b", "2"), put("c", "3"))
	b.look(keys)
	b.commit(gone("a"), put("b", "2"))
	b.commit(put("c", "3"))
	b.look(keys)
	b.clean()
	b.commit(put("a", "4"), put("c", "4"))
	b.commit(put("a", "4"))
	b.look(keys)
	if at, e := b.s.Commit([]store.Write{put("a", "9")}); at != 0 || e != api.Full {
		t.Errorf("P701: %d, %v", at, e)
	}
}

// P701: a limit of 0 leaves room for a Commit of nothing alone.
func TestLimitOfNone(t *testing.T) {
	s := store.New(0)
	if at, e := s.Commit([]store.Write{gone("a")}); at != 0 || e != api.Full {
		t.Errorf("P701: %d, %v", at, e)
	}
	for i, w := range [][]store.Write{nil, {}} {
		if at, e := s.Commit(w); at != i+1 || e != api.OK || s.Now() != i+1 || s.Count() != 0 {
			t.Errorf("P701: of nothing: %d, %v, Now %d, Count %d", at, e, s.Now(), s.Count())
		}
	}
	if at := s.Pin(); at != 2 {
		t.Errorf("P702: %d", at)
	}
	if n := s.Clean(); n != 0 {
		t.Errorf("P702: %d", n)
	}
}

// P702: nothing is pinned: all but the newest goes, and that one, if it is gone.
func TestCleanUnpinned(t *testing.T) {
	b := newPair(t, 100)
	keys := []string{"a", "b", "c", "d"}
	b.commit(put("a", "1"), put("b", "1"), gone("c"))
	b.commit(put("a", "2"), gone("b"))
	b.commit(put("d", ""))
	b.commit(gone("d"))
	b.commit(put("d", "!"))
	b.look(keys)
	if n := b.s.Clean(); n != 6 || b.s.Count() != 2 {
		t.Errorf("P702: %d went, %d are left", n, b.s.Count())
	}
	b.p.clean()
	b.look(keys)
	if b.s.Changed("b", 0) || b.s.Changed("c", -1) || !b.s.Changed("a", 1) || b.s.Changed("a", 2) {
		t.Error("P701, P702: Changed of what went, or of what stayed")
	}
	if n := b.s.Clean(); n != 0 {
		t.Errorf("P702: a second time: %d", n)
	}
	b.commit(put("b", "3"), put("c", "3"))
	b.look(keys)
	b.commit(gone("b"), gone("c"))
	b.clean()
	b.look(keys)
}

// P702: the least stamp that is pinned counts, and none of the others.
func TestCleanPinned(t *testing.T) {
	b := newPair(t, 100)
	keys := []string{"a", "b"}
	for i := range 6 {
		b.pin()
		b.commit(put("a", fmt.Sprint(i)))
		b.commit(gone("a"), put("b", fmt.Sprint(i)))
	}
	for _, x := range []struct{ at, went int }{{4, 0}, {10, 0}, {6, 0}, {3, 0}, {-1, 0}, {0, 2}, {0, 0}, {2, 9}, {8, 6}} {
		b.unpin(x.at)
		if n := b.s.Clean(); n != x.went {
			t.Errorf("P702: Clean behind Unpin(%d): %d, not %d", x.at, n, x.went)
		}
		b.p.clean()
		b.look(keys)
		b.clean()
	}
	if b.s.Count() != 1 {
		t.Errorf("P702: %d are left", b.s.Count())
	}
}

// P702: a version of the least stamp itself is the newest one there, and stays; one above it is not looked at.
func TestCleanAtTheEdge(t *testing.T) {
	for _, last := range []store.Write{put("a", "2"), gone("a")} {
		for _, after := range []store.Write{put("a", "3"), gone("a")} {
			b := newPair(t, 100)
			b.commit(put("a", "1"))
			b.commit(last)
			b.pin()
			b.commit(after)
			b.commit(put("a", "4"))
			want := 1
			if last.Gone {
				want = 2
			}
			if n := b.s.Clean(); n != want || b.s.Count() != 4-want {
				t.Errorf("P702: %+v, %+v: %d went, %d are left", last, after, n, b.s.Count())
			}
			b.p.clean()
			b.look([]string{"a"})
			b.clean()
			b.unpin(2)
			b.clean()
			b.look([]string{"a"})
		}
	}
}

// P702: a stamp that is pinned twice must be unpinned twice; what is not pinned may be unpinned.
func TestPinnedTwice(t *testing.T) {
	s := store.New(100)
	s.Commit([]store.Write{put("a", "1")})
	for range 3 {
		if at := s.Pin(); at != 1 {
			t.Errorf("P702: Pin: %d", at)
		}
	}
	s.Commit([]store.Write{put("a", "2")})
	for _, at := range []int{0, 2, -1, math.MinInt, math.MaxInt, 1, 1, 3} {
		s.Unpin(at)
		if n := s.Clean(); n != 0 || read(s, "a", 1) != `"1" true` {
			t.Errorf("P702: Unpin(%d): %d, %s", at, n, read(s, "a", 1))
		}
	}
	s.Unpin(1)
	s.Unpin(1) // and is not owed afterwards
	if n := s.Clean(); n != 1 || s.Count() != 1 {
		t.Errorf("P702: %d went, %d are left", n, s.Count())
	}
	if at := s.Pin(); at != 2 {
		t.Errorf("P702: Pin: %d", at)
	}
	s.Commit([]store.Write{put("a", "3")})
	s.Unpin(1)
	if n := s.Clean(); n != 0 {
		t.Errorf("P702: an Unpin of what was not pinned counted: %d", n)
	}
	s.Unpin(2)
	if n := s.Clean(); n != 1 {
		t.Errorf("P702: %d", n)
	}
}

// P703: what is read at a pinned stamp, ahead of Clean and behind it.
func TestPinnedReads(t *testing.T) {
	s := store.New(1000)
	keys := []string{"", "a", "b", "c", "d"}
	all := func(at int) string {
		var l []string
		for _, key := range keys {
			l = append(l, read(s, key, at))
		}
		return strings.Join(l, " ")
	}
	was := map[int]string{}
	for i := range 30 {
		var w []store.Write
		for j, key := range keys {
			switch (i*7 + j*j*3) % 5 {
			case 0, 1:
				w = append(w, put(key, fmt.Sprint(i, j)))
			case 2:
				w = append(w, gone(key))
			}
		}
		s.Commit(w)
		if i%3 == 0 {
			at := s.Pin()
			was[at] = all(at)
		}
	}
	now := all(s.Now())
	for at := 1; at <= 30; at++ {
		s.Clean()
		for pinned, want := range was {
			if got := all(pinned); got != want {
				t.Errorf("P703: at %d: %s, not %s", pinned, got, want)
			}
		}
		if got := all(s.Now()); got != now {
			t.Errorf("P703: now: %s, not %s", got, now)
		}
		s.Unpin(at)
		delete(was, at)
	}
}
