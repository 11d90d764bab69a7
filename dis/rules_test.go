package dis_test

import (
	"bytes"
	"fmt"
	"math/rand"
	"slices"
	"sync"
	"testing"

	"letterpress/api"
	"letterpress/dis"
)

func fill[T any](l []T, x T) {
	for i := range l[:cap(l)] {
		l[:cap(l)][i] = x
	}
}

// told is both answers as one text.
func told(b []byte) string { return fmt.Sprintf("%q %q", dis.List(b), dis.Frags(b)) }

// P1, P8: more bytes than the chapter speaks of.
func TestLong(t *testing.T) {
	const n = 1 << 17
	for _, s := range []string{"\x00", "\xff", "\x00\x04", "\x7c\x00", "\x70\x00\x00\x00", "\x7c\x00\x02\x14", "\x18", "\xe8\x80", "\x1f\xff\xff"} {
		b := bytes.Repeat([]byte(s), n/len(s))
		l := dis.List(b)
		if len(l) < len(b)/4 || len(l) > len(b)/2+1 {
			t.Errorf("P1: %x: %d lines of %d bytes", s, len(l), len(b))
		}
		if f := dis.Frags(b); len(f) != 0 {
			t.Errorf("P1: %x: %d fragments", s, len(f))
		}
	}
	d := rand.New(rand.NewSource(21))
	for range 50 {
		same(t, mixed(d, 8192+d.Intn(20000)))
	}
}

// P2: bytes that are handed in are not changed, nor what is behind them, and what is behind them is not looked at.
func TestUnchanged(t *testing.T) {
	d := rand.New(rand.NewSource(22))
	for range 500 {
		b := mixed(d, 4+d.Intn(300))
		n := d.Intn(len(b) + 1)
		was := bytes.Clone(b)
		got := told(b[:n])
		if !bytes.Equal(b, was) {
			t.Fatalf("P2: %x became %x", was, b)
		}
		if want := told(slices.Clip(bytes.Clone(b[:n]))); got != want {
			t.Fatalf("P2: %x, with more behind: %s, not %s", b[:n], brief(got), brief(want))
		}
	}
}

// P2: an answer is new memory: neither the bytes that were handed in nor another answer is it.
func TestNewMemory(t *testing.T) {
	d := rand.New(rand.NewSource(23))
	for range 200 {
		b := mixed(d, d.Intn(400))
		want := told(b)
		l, f := dis.List(b), dis.Frags(b)
		list, frags := dis.List(b), dis.Frags(b)
		fill(l, "spoilt")
		fill(f, api.Frag{Name: "spoilt", Text: "spoilt"})
		if got := told(b); got != want {
			t.Fatalf("P2, P3: %x: %s, not %s", b, brief(got), brief(want))
		}
		fill(b, 0xee)
		if got := fmt.Sprintf("%q %q", list, frags); got != want {
			t.Fatalf("P2: kept: %s, not %s", brief(got), brief(want))
		}
	}
}

// P2: no bytes and an empty list of them are the same.
func TestNoBytes(t *testing.T) {
	for _, b := range [][]byte{nil, {}, make([]byte, 0, 8), []byte("ab")[:0]} {
		if l, f := dis.List(b), dis.Frags(b); len(l) != 0 || len(f) != 0 {
			t.Errorf("P601, P2: %q, %q", l, f)
		}
	}
}

// P3, P7: calls side by side do not touch one another.
func TestSideBySide(t *testing.T) {
	b := mixed(rand.New(rand.NewSource(24)), 3000)
	want := told(b)
	answers := make([]string, 8)
	var g sync.WaitGroup
	for i := range answers {
		g.Go(func() { answers[i] = told(b) })
	}
	g.Wait()
	for _, got := range answers {
		if got != want {
			t.Errorf("P3: %s, not %s", brief(got), brief(want))
		}
	}
}

// P1: whatever else there is.
func FuzzList(f *testing.F) {
	for _, s := range []string{"", "\x00", "\x00\x04\x70\x00\x00\x00", "\x7c\x00\x02\x14\x18", "\xe8\x80\xff\xff"} {
		f.Add([]byte(s))
	}
	f.Fuzz(func(t *testing.T, b []byte) {
		same(t, b)
		if len(b) <= 4096 {
			back(t, b)
		}
	})
}
