package frame_test

import (
	"fmt"
	"math/rand"
	"slices"
	"testing"

	"letterpress/api"
	"letterpress/frame"
)

// headed are bytes with a head of that size ahead that tells how many there are, and then n more.
func headed(size, n int, b []byte) []byte {
	n += len(b)
	return slices.Concat([]byte{byte(n >> 16), byte(n >> 8), byte(n)}[3-size:], b)
}

// broken hands on the bytes of a frame with each of them turned, each taken out, others laid in anywhere, and other numbers in its head.
func broken(b []byte, head int, values []byte, hand func([]byte)) {
	for i := range b {
		for _, c := range values {
			x := slices.Clone(b)
			x[i] = c
			hand(x)
			x = slices.Insert(slices.Clone(b), i, c)
			hand(x)
			if i >= head {
				hand(headed(head, 0, x[head:]))
			}
		}
		x := slices.Delete(slices.Clone(b), i, i+1)
		hand(x)
		if i >= head {
			hand(headed(head, 0, x[head:]))
		}
		hand(b[:i])
		if i >= head {
			hand(headed(head, 0, b[head:i]))
		}
	}
	for _, n := range []int{-1, 1, 256, -256} {
		for _, behind := range []string{"", "a", "\x00\x00", string(make([]byte, 300))} {
			hand(append(headed(head, n, b[head:]), behind...))
			hand(append(headed(head, 0, append(slices.Clone(b[head:]), behind...)), behind...))
		}
	}
}

func allBytes() []byte {
	b := make([]byte, 256)
	for i := range b {
		b[i] = byte(i)
	}
	return b
}

// P1101: each request's bytes with any one of them turned, laid in or taken out.
func TestBrokenRequests(t *testing.T) {
	seen := map[api.Errno]int{}
	for _, x := range requests {
		values := allBytes()
		if len(x.b) > 100 {
			values = []byte{0, 'a'}
		}
		broken([]byte(x.b), 2, values, func(b []byte) {
			_, used, e := takes(t, b)
			seen[e]++
			if used > 0 && e == api.OK && used != len(x.b) {
				seen[-1]++
			}
		})
	}
	for _, e := range []api.Errno{api.OK, api.Large, api.BadFrame, -1} {
		if seen[e] < 10 {
			t.Errorf("%v: %d", e, seen[e])
		}
	}
}

// P1102: each response's bytes with any one of them turned, laid in or taken out.
func TestBrokenResponses(t *testing.T) {
	taken, refused := 0, 0
	for _, x := range responses {
		values := allBytes()
		if len(x.b) > 100 {
			values = []byte{0}
		}
		if len(x.b) > 1000 {
			continue
		}
		broken([]byte(x.b), 3, values, func(b []byte) {
			if _, _, is := takesResponse(t, b); is {
				taken++
			} else {
				refused++
			}
		})
	}
	if taken < 1000 || refused < 1000 {
		t.Errorf("%d are taken, %d refused", taken, refused)
	}
}

// P1102: great responses, turned here and there.
func TestBrokenGreatResponses(t *testing.T) {
	d := rand.New(rand.NewSource(111))
	for _, x := range responses {
		if len(x.b) <= 1000 {
			continue
		}
		for i := range 90 {
			at := pick(d, d.Intn(20), len(x.b)-1-d.Intn(20), d.Intn(len(x.b)))
			b := []byte(x.b)
			switch i % 3 {
			case 0:
				b[at] = byte(d.Intn(256))
			case 1:
				b = slices.Insert(b, at, byte(d.Intn(256)))
			case 2:
				b = slices.Delete(b, at, at+1)
			}
			takesResponse(t, b)
			takesResponse(t, headed(3, 0, b[3:]))
		}
	}
}

// P1101: all numbers that the first two bytes may be, with nothing, few bytes and enough behind them.
func TestAllHeads(t *testing.T) {
	enough := make([]byte, 66000)
	for n := range 1 << 16 {
		b := enough
		b[0], b[1] = byte(n>>8), byte(n)
		for _, size := range []int{0, 1, 2, 3, n + 1, n + 2, n + 3, n + 300} {
			r, used, e := frame.ReadRequest(b[:size])
			want := toldRequest(readRequest(b[:size]))
			if got := toldRequest(r, used, e); got != want {
				t.Fatalf("P1101: %d, with %d bytes: %s, not %s", n, size, got, want)
			}
		}
	}
}

// P1101: all frames of up to five of these bytes.
func TestAllShort(t *testing.T) {
	var grow func(b []byte)
	grow = func(b []byte) {
		takes(t, headed(2, 0, b))
		takes(t, b)
		takesResponse(t, headed(3, 0, b))
		if len(b) < 5 {
			for _, c := range []byte{0, 1, 2, 3, 5, 7, 8, 'a'} {
				grow(append(slices.Clone(b), c))
			}
		}
	}
	grow(nil)
}

// P1101, P1102, P1103: any requests and responses, there and back.
func TestThereAndBack(t *testing.T) {
	d := rand.New(rand.NewSource(112))
	for i := range 6000 {
		goesThere(t, anyRequest(d))
		if i%4 == 0 {
			goesThereResponse(t, anyResponse(d, pick(d, 2, 20, 300)))
		}
		if i%500 == 0 {
			goesThereResponse(t, anyResponse(d, 5000))
		}
	}
}

// P1101, P1102: what is made of frames by several breaks, and bytes of no frame.
func TestBrokenOften(t *testing.T) {
	d := rand.New(rand.NewSource(113))
	seen := map[string]int{}
	for range 20000 {
		b := frame.Request(anyRequest(d))
		size := 2
		if d.Intn(2) == 0 {
			b = frame.Response(anyResponse(d, 4))
			size = 3
		}
		for range d.Intn(4) {
			at := min(pick(d, d.Intn(len(b)+1), d.Intn(12)), len(b))
			n := min(pick(d, 0, 1, 1, 2, d.Intn(9)), len(b)-at)
			b = slices.Replace(b, at, at+n, []byte(anyBytes(d, pick(d, 0, n, n, n, 1, d.Intn(9))))...)
		}
		if d.Intn(2) == 0 && len(b) > size {
			b = headed(size, 0, b[size:])
		}
		_, used, e := takes(t, b)
		_, _, is := takesResponse(t, b)
		seen[fmt.Sprint(e, used > 0)]++
		seen[fmt.Sprint(is)]++
	}
	for _, kind := range []string{"ok true", "ok false", "large false", "frame true", "true", "false"} {
		if seen[kind] < 500 {
			t.Errorf("%s: %d", kind, seen[kind])
		}
	}
}

// P1103: rows of any requests, in pieces of any sizes, with wrong frames between.
func TestRows(t *testing.T) {
	d := rand.New(rand.NewSource(114))
	for range 100 {
		var all, lies []byte
		var want, got []string
		for range d.Intn(30) {
			r, e := anyRequest(d), api.OK
			b := writtenRequest(r)
			if d.Intn(5) == 0 {
				r, e = api.Request{}, api.BadFrame
				b = headed(2, 0, append(b[2:], '!'))
			}
			all = append(all, b...)
			want = append(want, toldRequest(r, len(b), e))
		}
		for len(all) > 0 {
			n := min(len(all), pick(d, 1, 2, 3, 50, 700, d.Intn(2000)))
			lies, all = append(lies, all[:n]...), all[n:]
			for {
				r, used, e := takes(t, lies)
				if used == 0 {
					break
				}
				lies = lies[used:]
				got = append(got, toldRequest(r, used, e))
			}
		}
		if !slices.Equal(got, want) || len(lies) > 0 {
			t.Fatalf("P1103: %s, not %s", brief(fmt.Sprint(got)), brief(fmt.Sprint(want)))
		}
	}
}

// P1, P1101, P1102: whatever bytes there are.
func FuzzRead(f *testing.F) {
	for _, x := range requests {
		f.Add([]byte(x.b), false)
	}
	for _, x := range responses {
		if len(x.b) < 3000 {
			f.Add([]byte(x.b), true)
		}
	}
	f.Fuzz(func(t *testing.T, b []byte, is bool) {
		takes(t, b)
		takesResponse(t, b)
		if is && len(b) > 3 {
			takesResponse(t, headed(3, 0, b[3:]))
		}
		if !is && len(b) > 2 {
			takes(t, headed(2, 0, b[2:]))
		}
	})
}

// P1, P8, P1101, P1102: whatever is written.
func FuzzWrite(f *testing.F) {
	for _, x := range requests {
		f.Add(x.r.Kind, x.r.Name, x.r.Text, x.r.Value, 2)
	}
	f.Fuzz(func(t *testing.T, kind int, name, text string, value, n int) {
		writes(t, api.Request{Kind: kind, Name: name, Text: text, Value: value})
		writesResponse(t, api.Response{E: api.Errno(kind), Text: text, Image: []byte(name), Diags: diags(max(n, 0)%6000, api.Diag{Frag: name, Line: value, E: api.Errno(kind)})})
	})
}
