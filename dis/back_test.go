package dis_test

import (
	"bytes"
	"fmt"
	"math/rand"
	"slices"
	"strings"
	"testing"

	"letterpress/api"
	"letterpress/asm"
	"letterpress/dis"
	"letterpress/line"
)

// back: whether b is assembled from its listing, as it is, and, where that has more fragments than a source may have, from longer ones.
func back(t *testing.T, b []byte) (parts int) {
	t.Helper()
	frags := dis.Frags(b)
	parts = len(frags)
	if parts > 20 {
		frags = joined(frags)
	}
	image, diags := asm.Assemble(frags, nil)
	if len(diags) > 0 || !bytes.Equal(image, b) {
		t.Fatalf("P602: %x: %s, %x", brief(string(b)), brief(fmt.Sprint(diags)), brief(string(image)))
	}
	return parts
}

// joined are eight fragments each as one: at most 4800 bytes.
func joined(frags []api.Frag) []api.Frag {
	var l []api.Frag
	for part := range slices.Chunk(frags, 8) {
		all := api.Frag{Name: part[0].Name}
		for _, f := range part {
			all.Text += f.Text
		}
		l = append(l, all)
	}
	return l
}

// P602 (T4)
func TestBack(t *testing.T) {
	d := rand.New(rand.NewSource(11))
	few := 0
	for range 1500 {
		if back(t, mixed(d, d.Intn(1300))) <= 20 {
			few++
		}
	}
	if few < 1000 {
		t.Errorf("%d with 20 fragments at most", few)
	}
	for range 60 {
		back(t, mixed(d, d.Intn(4097)))
	}
	for _, size := range []int{0, 1, 2, 3, 4, 5, 4093, 4094, 4095, 4096} {
		back(t, mixed(d, size))
	}
}

// P602: the most bytes that have place in 20 fragments, and those that fill all 20 of them.
func TestFullBack(t *testing.T) {
	for _, y := range []struct {
		s     string
		times int
		parts int
	}{
		{"78000000", 1024, 18}, // e_b . + 0
		{"78000001", 1024, 19}, // e_bl . + 0
		{"79fffffe", 1024, 18}, // e_b . - 2
		{"cfff", 600, 20},      // lines of 20 bytes: 20 fragments of 600
		{"e680", 600, 20},
		{"1fffffff", 540, 20},
		{"0004", 1700, 20},
		{"0002", 2000, 20},
	} {
		b := bytes.Repeat(bytesOf(t, y.s), y.times)
		if got := back(t, b); got != y.parts {
			t.Errorf("P601: %d of %s: %d fragments, not %d", y.times, y.s, got, y.parts)
		}
	}
}

// P602: each instruction with its operands at both ends, and all that two bytes are.
func TestEachBack(t *testing.T) {
	for _, r := range rows {
		for n := range 1 << len(r.kinds) {
			w := r.bits
			for i, k := range r.kinds {
				w |= ends[k][n>>i%2].bits
			}
			b := []byte{byte(w >> 24), byte(w >> 16), byte(w >> 8), byte(w)}[4-r.size:]
			back(t, b)
			back(t, slices.Concat([]byte{0, 4}, b, b, []byte{byte(n)}))
		}
	}
	var b []byte
	for n := range 1 << 16 {
		b = append(b, byte(n>>8), byte(n))
		if len(b) == 4096 {
			back(t, b)
			b = b[:0]
		}
	}
	for n := range 256 {
		back(t, []byte{byte(n)})
		back(t, []byte{0, 4, byte(n)})
	}
}

// T4: a line is told as line.Text tells it.
func TestLinesRead(t *testing.T) {
	d := rand.New(rand.NewSource(12))
	for range 300 {
		for _, s := range dis.List(mixed(d, 200)) {
			x, is := line.One(s)
			if !is || x.Label != "" || x.Kind == api.SGrow || line.Text(x) != s {
				t.Fatalf("P601, P403: %q is read as %v, %v", s, x, is)
			}
		}
	}
}

// W2: the names of fragments are words.
func TestNamesAreWords(t *testing.T) {
	for _, f := range dis.Frags(bytes.Repeat(twenty, 9000)) {
		if !line.Word(f.Name) || !strings.HasSuffix(f.Text, "\n") {
			t.Errorf("W2: %v", f)
		}
	}
}
