package frame_test

import (
	"bytes"
	"fmt"
	"math"
	"math/rand"
	"runtime"
	"slices"
	"strings"
	"sync"
	"testing"
	"unsafe"

	"letterpress/api"
	"letterpress/frame"
)

// loose is a text whose bytes the test can change.
func loose(s string) (string, func()) {
	b := []byte(s)
	return unsafe.String(unsafe.SliceData(b), len(b)), func() { fill(b, '!') }
}

// writes holds Request of r against the second writing, and what the package says of wrong ones (P8).
func writes(t *testing.T, r api.Request) {
	t.Helper()
	asked := r
	var spoilName, spoilText func()
	asked.Name, spoilName = loose(r.Name)
	asked.Text, spoilText = loose(r.Text)
	b := frame.Request(asked)
	if asked != r {
		t.Fatalf("P2: %s became %s", brief(toldRequest(r, 0, 0)), brief(toldRequest(asked, 0, 0)))
	}
	spoilName()
	spoilText()
	var want []byte
	if rightRequest(r) {
		want = writtenRequest(r)
	}
	if !bytes.Equal(b, want) {
		t.Fatalf("P1101: %s: %s, not %s", brief(toldRequest(r, 0, 0)), brief(fmt.Sprintf("%q", b)), brief(fmt.Sprintf("%q", want)))
	}
}

// writesResponse holds Response of r against the second writing, with all that it is handed, spare room too, being as it was.
func writesResponse(t *testing.T, r api.Response) {
	t.Helper()
	asked := r
	var spoilText func()
	asked.Text, spoilText = loose(r.Text)
	asked.Image = roomy(r.Image)
	asked.Diags = append(slices.Clone(r.Diags), diags(3, api.Diag{Frag: "room", Line: 7, E: 7})...)[:len(r.Diags)]
	image, list := whole(asked.Image), slices.Clone(asked.Diags[:cap(asked.Diags)])
	b := frame.Response(asked)
	if asked.Text != r.Text || whole(asked.Image) != image || !slices.Equal(asked.Diags[:cap(asked.Diags)], list) {
		t.Fatalf("P2: %s was changed", brief(toldResponse(r, 0, true)))
	}
	spoilText()
	fill(asked.Image, 0xee)
	fill(asked.Diags, api.Diag{Frag: "spoilt", Line: -1, E: -1})
	var want []byte
	if rightResponse(r) {
		want = writtenResponse(r)
	}
	if !bytes.Equal(b, want) {
		t.Fatalf("P1102: %s: %s, not %s", brief(toldResponse(r, 0, true)), brief(fmt.Sprintf("%q", b)), brief(fmt.Sprintf("%q", want)))
	}
}

// P1, P2, P8: requests whose fields are put together each with each.
func TestAllFields(t *testing.T) {
	for kind := -2; kind < 10; kind++ {
		for _, name := range []string{"", "a", "r1", "A", "twelve_bytes", "thirteen_byte", strings.Repeat("a", 256), strings.Repeat("a", 257)} {
			for _, text := range []string{"", "x", text600, text600 + "x", strings.Repeat("x", 65536)} {
				for _, value := range []int{0, 1, -1, 1 << 40, -1 << 40, 1<<40 + 1, -1<<40 - 1, math.MaxInt, math.MinInt} {
					writes(t, api.Request{Kind: kind, Name: name, Text: text, Value: value})
				}
			}
		}
	}
	for _, kind := range []int{256, 257, 258, 261, 263, 1 << 16, math.MaxInt, math.MinInt, -249} {
		for _, name := range []string{"", "a"} {
			writes(t, api.Request{Kind: kind, Name: name})
		}
	}
}

// P1, P2, P8, P9: responses beyond one bound or several.
func TestBeyond(t *testing.T) {
	numbers := []int{0, 1, 14, 255, 256, 257, -1, -256, 5000, 5001, 65535, 65536, 65537, 1 << 32, math.MaxInt, math.MinInt}
	d := rand.New(rand.NewSource(115))
	for _, n := range numbers {
		writesResponse(t, api.Response{E: api.Errno(n)})
		writesResponse(t, api.Response{Diags: diags(1, api.Diag{Line: n})})
		writesResponse(t, api.Response{Diags: diags(1, api.Diag{E: api.Errno(n)})})
		writesResponse(t, api.Response{Diags: append(diags(3, api.Diag{}), api.Diag{Frag: "a", Line: n, E: api.Errno(n)})})
		if n >= 0 && n < 1<<17 {
			writesResponse(t, api.Response{Text: strings.Repeat("x", n)})
			writesResponse(t, api.Response{Image: make([]byte, n)})
			writesResponse(t, api.Response{Diags: make([]api.Diag, n)})
		}
	}
	for _, n := range []int{599, 600, 601, 4095, 4096, 4097, 4999} {
		writesResponse(t, api.Response{Text: strings.Repeat("x", n)})
		writesResponse(t, api.Response{Image: bytes.Repeat([]byte{7}, n)})
		writesResponse(t, api.Response{Diags: make([]api.Diag, n)})
	}
	for _, s := range append([]string{"r1", "A", "1", "a b", " a", "a\n", "(a)", "thirteen_byte", "\x00", "\xff", "é", strings.Repeat("a", 256), strings.Repeat("a", 1<<16)}, names...) {
		writesResponse(t, api.Response{Diags: diags(1, api.Diag{Frag: s})})
		writesResponse(t, api.Response{Diags: []api.Diag{{Frag: "a"}, {Frag: s}}})
		writesResponse(t, api.Response{Diags: []api.Diag{{Frag: s}, {Frag: "a"}}})
	}
	for range 2000 {
		r := anyResponse(d, 5)
		for i := range r.Diags {
			if d.Intn(4) == 0 {
				r.Diags[i] = api.Diag{Frag: pick(d, "", "a", "r1", "A"), Line: pick(d, numbers...), E: api.Errno(pick(d, numbers...))}
			}
		}
		r.E = api.Errno(pick(d, numbers...))
		writesResponse(t, r)
	}
}

// P1: lists, texts and numbers that are very great.
func TestVeryGreat(t *testing.T) {
	for _, s := range []string{"a", "(", "-", "\xff", "\x00", "\x01", "\x03\xe8"} {
		long := strings.Repeat(s, 1<<24/len(s))
		for kind := -1; kind < 9; kind++ {
			for _, r := range []api.Request{{Kind: kind, Name: long}, {Kind: kind, Name: "a", Text: long}} {
				if b := frame.Request(r); len(b) > 0 {
					t.Errorf("P8: %.10q: %d bytes", s, len(b))
				}
			}
		}
		for _, r := range []api.Response{{Text: long}, {Image: []byte(long)}, {Diags: diags(1, api.Diag{Frag: long})}, {Diags: diags(1<<17, api.Diag{Frag: s})}} {
			if b := frame.Response(r); len(b) > 0 {
				t.Errorf("P8: %.10q: %d bytes", s, len(b))
			}
		}
		if s > "\x02" && s < "\xff" {
			continue
		}
		for _, ahead := range []string{"", "\x00\x00", "\x03\xe8", "\xff\xff\xff", "\xff\xff\xf0", "\x00\xff\xff\x00", "\xff\xff\xf0\x00\x00\x00\x00\x00\xff\xff", "\xff\xff\xf0\x00\x00\x00\xff\xff"} {
			takes(t, []byte(ahead+long))
			takesResponse(t, []byte(ahead+long))
		}
	}
}

// P2: what was answered may be changed, its spare room too, and each later call answers as if it had not been.
func TestNewMemory(t *testing.T) {
	for _, x := range requests {
		for range 3 {
			b := frame.Request(x.r)
			if string(b) != x.b {
				t.Fatalf("P2: %.100q, not %.100q", b, x.b)
			}
			fill(b, '!')
		}
	}
	for _, x := range responses {
		b := roomy([]byte(x.b))
		was := whole(b)
		want := toldResponse(x.r, len(b), true)
		for range 3 {
			r, used, is := frame.ReadResponse(b)
			if got := toldResponse(r, used, is); got != want {
				t.Fatalf("P2: %s, not %s", brief(got), brief(want))
			}
			fill(r.Image, '!')
			fill(r.Diags, api.Diag{Frag: "spoilt", Line: -1, E: -1})
			if whole(b) != was {
				t.Fatalf("P2: %.100q shares memory with what is read from it", x.b)
			}
			w := frame.Response(x.r)
			if string(w) != x.b {
				t.Fatalf("P2: %.100q, not %.100q", w, x.b)
			}
			fill(w, '!')
		}
	}
}

// P2: no text of an answer stands in what was handed in.
func TestTextsApart(t *testing.T) {
	b := frame.Request(put(twelve, text600))
	r, _, _ := frame.ReadRequest(b)
	c := frame.Response(api.Response{Text: text600, Image: []byte(image4096), Diags: diags(3, api.Diag{Frag: twelve})})
	a, _, _ := frame.ReadResponse(c)
	fill(b, '!')
	fill(c, '!')
	if r != put(twelve, text600) || a.Text != text600 || string(a.Image) != image4096 || !slices.Equal(a.Diags, diags(3, api.Diag{Frag: twelve})) {
		t.Error("P2: what was read hangs on the bytes that it was read from")
	}
	for i, x := range a.Diags {
		for _, y := range a.Diags[:i] {
			if unsafe.StringData(x.Frag) == unsafe.StringData(y.Frag) {
				t.Error("P2: two names of one answer are one memory")
			}
		}
	}
}

// P3, P7: calls side by side, on what they all are handed, answer the same.
func TestSideBySide(t *testing.T) {
	all := func() string {
		var s strings.Builder
		for _, x := range requests {
			s.Write(frame.Request(x.r))
			s.WriteString(toldRequest(frame.ReadRequest([]byte(x.b))))
		}
		for _, x := range responses {
			s.Write(frame.Response(x.r))
			s.WriteString(toldResponse(frame.ReadResponse([]byte(x.b))))
		}
		return s.String()
	}
	want := all()
	answers := make([]string, 4)
	var g sync.WaitGroup
	for i := range answers {
		g.Go(func() { answers[i] = all() })
	}
	g.Wait()
	for _, got := range answers {
		if got != want {
			t.Fatal("P3: another answer side by side")
		}
	}
}

func inUse() uint64 {
	var m runtime.MemStats
	runtime.GC()
	runtime.ReadMemStats(&m)
	return m.HeapAlloc
}

// P2: of much that is handed in nothing is held by little that was read from it.
func TestNotHeld(t *testing.T) {
	start := inUse()
	var l []api.Request
	var k []api.Response
	for range 64 {
		b := append(frame.Request(put("a_name", "a text")), make([]byte, 1<<20)...)
		r, _, _ := frame.ReadRequest(b)
		l = append(l, r)
		b = append(frame.Response(api.Response{Text: "a text", Image: []byte{1}, Diags: diags(1, api.Diag{Frag: "a_name"})}), make([]byte, 1<<20)...)
		a, _, _ := frame.ReadResponse(b)
		k = append(k, a)
	}
	if now := inUse(); now > start+1<<19 {
		t.Errorf("%d bytes are held of %d requests and %d responses", now-start, len(l), len(k))
	}
	runtime.KeepAlive(l)
	runtime.KeepAlive(k)
}

// Of bytes that say that there are many things, and have few, no room is made for the many.
func TestNoRoomForNothing(t *testing.T) {
	b := []byte("\x00\x00\x07\x00\x00\x00\x00\x00\xff\xff")
	var from, to runtime.MemStats
	runtime.ReadMemStats(&from)
	for range 1000 {
		frame.ReadResponse(b)
	}
	runtime.ReadMemStats(&to)
	if n := to.TotalAlloc - from.TotalAlloc; n > 1<<20 {
		t.Errorf("%d bytes were taken for 1000 calls", n)
	}
}
