package incr_test

import (
	"fmt"
	"math"
	"math/rand"
	"runtime"
	"slices"
	"strings"
	"sync"
	"testing"
	"unsafe"

	"letterpress/api"
	"letterpress/asm"
	"letterpress/incr"
)

// loose is a text whose bytes the test can change.
func loose(s string) (string, func()) {
	b := []byte(s)
	return unsafe.String(unsafe.SliceData(b), len(b)), func() { fill(b, '!') }
}

// fill writes all over a list, its spare room too.
func fill[T any](l []T, x T) {
	for i := range l[:cap(l)] {
		l[:cap(l)][i] = x
	}
}

// spoil writes all over a text that was answered, which is new memory.
func spoil(s string) {
	if s != "" {
		fill(unsafe.Slice(unsafe.StringData(s), len(s)), '!')
	}
}

// wild builds what may not be: names twice, any bytes, symbols of all kinds; all that was answered.
func wild(seed int64) string {
	d := rand.New(rand.NewSource(seed))
	b := incr.New()
	names := []string{"", "a", "b", "\xff", "a\n", strings.Repeat("n", 300)}
	pieces := []string{"\n", " ", ":", "#", "\"", ",", ".", "x", "y", "b ", "x:", ".equ ", ".space ", ".byte ", "bc 1,", "1", "0x", "<<", "-", "(", ")", "\x00", "\xff", "r1", "se_blr\n", "b x\n", "\r\n"}
	values := []int{0, 1, -1, 256, 1 << 40, 1<<40 + 1, math.MaxInt, math.MinInt}
	var l []string
	for range 30 {
		var frags []api.Frag
		for range d.Intn(6) {
			text := ""
			for range d.Intn(8) {
				text += pick(d, pieces...)
			}
			frags = append(frags, api.Frag{Name: pick(d, names...), Text: text})
		}
		var syms []api.Sym
		for range d.Intn(4) {
			syms = append(syms, api.Sym{Name: pick(d, "x", "y", "", "X", "\xff"), Value: pick(d, values...)})
		}
		for range 1 + d.Intn(2) {
			l = append(l, told(b.Build(frags, syms)), fmt.Sprint(b.Parsed(), b.Held()))
			for _, name := range pieces {
				l = append(l, fmt.Sprintf("%q", b.Users(name)))
			}
			if want := told(asm.Assemble(frags, syms)); l[len(l)-len(pieces)-2] != want {
				l = append(l, "not "+want)
			}
		}
	}
	return strings.Join(l, "\n")
}

// P1, P8, P3: whatever is handed in, each call ends, and the same calls answer the same.
func TestWild(t *testing.T) {
	for seed := range int64(300) {
		a, b := wild(seed), wild(seed)
		if a != b || strings.Contains(a, "\nnot ") {
			t.Fatalf("P3, P802: seed %d: %s", seed, a)
		}
	}
}

// P1, P8: fragments of one name leave a builder that goes on.
func TestOneName(t *testing.T) {
	for _, l := range [][]api.Frag{
		of("a", "b x", "a", "b x"),
		of("a", "b x", "a", "b y"),
		of("a", "b x", "c", "x:", "a", "b y", "a", "wrong"),
		of("", "", "", ""),
	} {
		y := newPair(t)
		y.build(of("a", "b y"), nil, "x", "y")
		if got, want := told(y.b.Build(l, nil)), told(asm.Assemble(l, nil)); got != want {
			t.Errorf("P802: %q: %s, not %s", l, got, want)
		}
		if y.b.Held() != len(l) {
			t.Errorf("P801: %q: Held %d", l, y.b.Held())
		}
		y.b.Users("x")
		y.b.Build(nil, nil)
		y.p.build(nil)
		y.p.parsed = y.b.Parsed()
		y.build(of("a", "b x", "c", "b y"), nil, "x", "y")
	}
}

// P1, P8: many fragments, many lines, so many that what went over all of them with each one would not end.
func TestMany(t *testing.T) {
	const n = 1 << 17
	var frags []api.Frag
	for i := range n {
		frags = append(frags, api.Frag{Name: fmt.Sprint("f", i), Text: ".equ k, x"})
	}
	b := incr.New()
	for range 2 {
		b.Build(frags, nil)
		if b.Held() != n || b.Parsed() != n || len(b.Users("x")) != n || len(b.Users("k")) != 0 {
			t.Errorf("P801: Held %d, Parsed %d", b.Held(), b.Parsed())
		}
	}
	b.Build(of("a", strings.Repeat(".byte x, y\n", n)+"b z"), nil)
	if b.Held() != 1 || b.Parsed() != n+1 || len(b.Users("z")) != 1 || len(b.Users("none")) != 0 {
		t.Errorf("P801: Held %d, Parsed %d", b.Held(), b.Parsed())
	}
}

// P1, P8: a line that goes deeper than any stack. Where Build tells that it is none, it has no users either.
func TestDeepLine(t *testing.T) {
	for _, n := range []int{2000, 4000, 4990, 4997, 4998, 4999, 5000, 5001, 5002, 5010, 6000, 1 << 20} {
		for _, head := range []string{".equ y, x", ".equ y, 1", "bc 1, x, 1"} {
			frags := of("a", "b z\n"+head+strings.Repeat("-1", n), "c", "z:\nx:")
			b := incr.New()
			_, diags := b.Build(frags, nil)
			var want []string
			if strings.Contains(head, "x") && !slices.Contains(diags, api.Diag{Frag: "a", Line: 2, E: api.BadLine}) {
				want = []string{"a"}
			}
			if got := b.Users("x"); !slices.Equal(got, want) {
				t.Errorf("P1: %s, %d deep: %q, not %q", head, n, got, want)
			}
			if got := b.Users("z"); len(got) != 1 {
				t.Errorf("P1: %s, %d deep: %q", head, n, got)
			}
		}
	}
}

// P2: what is handed in is not changed, nor what is behind it.
func TestUnchanged(t *testing.T) {
	d := rand.New(rand.NewSource(82))
	for range 300 {
		a := newAuthor(d)
		b := incr.New()
		var frags []api.Frag
		for i := range 5 {
			frags = append(frags, api.Frag{Name: fmt.Sprint("f", i), Text: a.text()})
		}
		syms := append(a.someSyms(), api.Sym{Name: "behind", Value: 1})
		wasFrags, wasSyms := slices.Clone(frags), slices.Clone(syms)
		for n := range 6 {
			b.Build(frags[:n%5], syms[:len(syms)-1])
			b.Users("behind")
			if !slices.Equal(frags, wasFrags) || !slices.Equal(syms, wasSyms) {
				t.Fatalf("P2: %q, %v became %q, %v", wasFrags, wasSyms, frags, syms)
			}
			if b.Held() != n%5 {
				t.Fatalf("P2: what is behind a list was held: %d", b.Held())
			}
		}
	}
}

// P2: what was handed in is not kept: neither the lists, nor names and texts, also those of a fragment that is held already.
func TestNotKept(t *testing.T) {
	y := newPair(t)
	sources := [][]api.Frag{
		of("a", "lab: b word", "other", "word: .equ name, lab\n.ascii \"text\""),
		of("a", "lab: b word", "other", "word: .equ name, lab\n.ascii \"text\""),
		of("other", "word: .equ name, lab\n.ascii \"text\"", "a", "lab: b word, word"),
		of("a", "lab: b word, word", "b", "lab: b word", "c", "word:"),
		of("a", "lab: b word, word", "b", "lab: b word", "c", "word:"),
	}
	for _, source := range sources {
		syms := []api.Sym{{Name: "n", Value: 1}}
		want := told(asm.Assemble(source, syms))
		var spoils []func()
		text := func(s string) string {
			got, spoil := loose(s)
			spoils = append(spoils, spoil)
			return got
		}
		frags := make([]api.Frag, 0, 8)
		for _, f := range source {
			frags = append(frags, api.Frag{Name: text(f.Name), Text: text(f.Text)})
		}
		syms[0].Name = text("n")
		image, diags := y.b.Build(frags, syms)
		asked := text("word")
		y.b.Users(asked)
		fill(frags, api.Frag{Name: "spoilt", Text: "b spoilt"})
		fill(syms, api.Sym{Name: "spoilt", Value: -1})
		for _, spoil := range spoils {
			spoil()
		}
		if got := told(image, diags); got != want {
			t.Errorf("P2: %q: %s, not %s", source, got, want)
		}
		y.p.build(source)
		y.look([]string{"word", "lab", "name", "n", "spoilt", "!!!!", "!"})
	}
	for _, source := range sources {
		y.build(source, nil, "word", "lab")
	}
}

// P2, P3: what was answered may be changed, its spare room and its texts too, and each later call answers as if it had not been.
func TestNewMemory(t *testing.T) {
	words := []string{"x", "y", "none"}
	for _, frags := range [][]api.Frag{
		of("frag", "b x\n.space 8", "more", "x: .byte y, x", "last", "b y"),
		of("frag", "x y", "more", "b x\nwrong", "last", "b y"),
		of("frag", "b x", "more", "b none"),
		of("frag", "y:\nx: b x"),
		of("frag", "b x\n.align y"),
		of("frag", strings.Repeat(".space 1000\n", 5)),
	} {
		y := newPair(t)
		syms := []api.Sym{{Name: "y", Value: 2}}
		for range 4 {
			y.build(frags, syms, words...)
			image, diags := y.b.Build(frags, syms)
			y.p.build(frags)
			again := told(y.b.Build(frags, syms))
			for _, x := range diags {
				spoil(x.Frag)
			}
			fill(image, 0xee)
			fill(diags, api.Diag{Frag: "spoilt", Line: -1, E: -1})
			for _, name := range words {
				l := y.b.Users(name)
				for _, s := range l {
					spoil(s)
				}
				fill(l, "spoilt")
			}
			y.look(words)
			if got := told(y.b.Build(frags, syms)); got != again {
				t.Errorf("P2: %q: %s, not %s", frags, got, again)
			}
		}
		if got := fmt.Sprint(frags[0].Name, syms); got != "frag[{y 2}]" {
			t.Fatalf("P2: %s", got)
		}
	}
}

// P2: no text of an answer is one that was handed in, or one that another answer has.
func TestTextsApart(t *testing.T) {
	frags := of("frag", "b x", "more", ".byte x", "last", "q q")
	b := incr.New()
	var l []string
	for range 3 {
		_, diags := b.Build(frags, nil)
		for _, y := range diags {
			l = append(l, y.Frag)
		}
		l = append(append(l, b.Users("x")...), b.Users("x")...)
	}
	for _, f := range frags {
		l = append(l, f.Name)
	}
	for i, s := range l {
		for _, other := range l[:i] {
			if unsafe.StringData(s) == unsafe.StringData(other) {
				t.Fatalf("P2: %q is answered twice from one memory", s)
			}
		}
	}
	if len(l) != 18 {
		t.Errorf("%d texts", len(l))
	}
}

// long plays a row of builds; all that was answered.
func long(seed int64, b *incr.Builder, between func()) string {
	a := newAuthor(rand.New(rand.NewSource(seed)))
	var frags []api.Frag
	var l []string
	for range 100 {
		frags = play(a, frags, []string{"", "b x"})
		l = append(l, told(b.Build(frags, a.someSyms())), fmt.Sprint(b.Parsed(), b.Held()))
		between()
		for _, name := range append(a.used, "x") {
			l = append(l, fmt.Sprintf("%q", b.Users(name)))
		}
		between()
		l = append(l, fmt.Sprint(b.Parsed(), b.Held()))
	}
	return strings.Join(l, "\n")
}

// P3, P7: builders side by side do not touch one another: with others' calls between, and each in a goroutine of its own.
func TestSideBySide(t *testing.T) {
	for seed := range int64(20) {
		want := long(seed, incr.New(), func() {})
		other, n := incr.New(), 0
		got := long(seed, incr.New(), func() {
			n++
			other.Build(of("a", fmt.Sprint("b x\n.byte ", n), "b", "x x", fmt.Sprint("c", n), "b y"), nil)
			incr.New().Build(nil, nil)
		})
		if got != want || other.Parsed() != 2*n+1 || other.Held() != 3 {
			t.Fatalf("P7: one builder touched another: %d, %d", other.Parsed(), other.Held())
		}
		answers := make([]string, 4)
		var g sync.WaitGroup
		for i := range answers {
			g.Go(func() { answers[i] = long(seed, incr.New(), func() {}) })
		}
		g.Wait()
		for _, got := range answers {
			if got != want {
				t.Fatal("P7: one builder touched another")
			}
		}
	}
}

func inUse() uint64 {
	var m runtime.MemStats
	runtime.GC()
	runtime.ReadMemStats(&m)
	return m.HeapAlloc
}

// P801: what is held is of the last Build alone: of fragments that went, and of texts that are no more, nothing is.
func TestNotHeld(t *testing.T) {
	const n = 60
	b := incr.New()
	start := inUse()
	for i := range n {
		text := strings.Repeat(".byte x, y, z\n", 4000)
		b.Build(of(fmt.Sprint("f", i), text, "same", fmt.Sprint(text, i)), []api.Sym{{Name: fmt.Sprint("n", i), Value: i}})
	}
	b.Build(of("a", "b x"), nil)
	if now := inUse(); now > start+1<<20 || b.Held() != 1 || b.Parsed() != 2*n+1 {
		t.Errorf("%d bytes are held of %d fragments, %d were parsed", now-start, b.Held(), b.Parsed())
	}
	runtime.KeepAlive(b)
}
