package work_test

import (
	"fmt"
	"math"
	"math/rand"
	"runtime"
	"slices"
	"strings"
	"sync"
	"testing"
	"unsafe"

	"letterpress/api"
	"letterpress/work"
)

// loose is a text whose bytes the test can change.
func loose(s string) (string, func()) {
	b := []byte(s)
	return unsafe.String(unsafe.SliceData(b), len(b)), func() { fill(b, '!') }
}

// fill writes all over a list, its spare room too.
func fill[T any](l []T, x T) {
	for i := range l[:cap(l)] {
		l[:cap(l)][i] = x
	}
}

// spoil writes all over a text that was answered, which is new memory.
func spoil(s string) {
	if s != "" {
		fill(unsafe.Slice(unsafe.StringData(s), len(s)), '!')
	}
}

// spoilAnswer writes all over what a request was answered.
func spoilAnswer(a api.Response) {
	spoil(a.Text)
	for _, x := range a.Diags {
		spoil(x.Frag)
	}
	fill(a.Image, 0xee)
	fill(a.Diags, api.Diag{Frag: "spoilt", Line: -1, E: -1})
}

// spoilSource writes all over what Frags and Syms answer.
func spoilSource(w *work.Work) {
	frags, syms := w.Frags(), w.Syms()
	for _, f := range frags {
		spoil(f.Name)
		spoil(f.Text)
	}
	for _, s := range syms {
		spoil(s.Name)
	}
	fill(frags, api.Frag{Name: "spoilt", Text: "spoilt"})
	fill(syms, api.Sym{Name: "spoilt", Value: -1})
}

// wild does requests of any fields; all that was answered.
func wild(seed int64) string {
	d := rand.New(rand.NewSource(seed))
	w := work.New()
	numbers := []int{0, 1, 2, 3, 4, 5, 6, 7, 8, -1, math.MaxInt, math.MinInt, 1 << 40, 1<<40 + 1, -1 << 40, 1 << 32}
	texts := []string{"", "a", "b", "r", "r1", "\xff", "a\n", "A", "(a)", "a b", "ａ", strings.Repeat("n", 1<<16), strings.Repeat("(", 700), "b a\n", ".byte b\n", "a: .equ b, " + strings.Repeat("-1", 280)}
	var l []string
	for range 80 {
		r := api.Request{Kind: pick(d, numbers...), Name: pick(d, texts...)}
		if d.Intn(3) > 0 {
			r.Text = pick(d, texts...)
		}
		if d.Intn(3) == 0 {
			r.Value = pick(d, numbers...)
		}
		ahead := toldSource(w.Frags(), w.Syms())
		a := w.Do(r)
		behind := toldSource(w.Frags(), w.Syms())
		if a.E != api.OK && ahead != behind {
			l = append(l, fmt.Sprintf("%q changed %s to %s", fmt.Sprint(r), ahead, behind))
		}
		if a.E == api.BadFrame == work.Right(r) {
			l = append(l, fmt.Sprintf("%q is answered %v", fmt.Sprint(r), a.E))
		}
		l = append(l, told(a), behind)
	}
	return strings.Join(l, "\n")
}

// P1, P3, P5: whatever is handed in, each call ends, the same calls answer the same, and what is refused changes nothing.
func TestWild(t *testing.T) {
	for seed := range int64(300) {
		a, b := wild(seed), wild(seed)
		if a != b || strings.Contains(a, " changed ") || strings.Contains(a, " is answered ") {
			t.Fatalf("P3, P5, P902: seed %d: %.2000s", seed, a)
		}
	}
}

// P1: names and texts that are very long.
func TestVeryLong(t *testing.T) {
	w := work.New()
	for _, s := range []string{strings.Repeat("a", 1<<24), strings.Repeat("(", 1<<24), strings.Repeat("-", 1<<24), strings.Repeat("\xff", 1<<24)} {
		for kind := -1; kind < 9; kind++ {
			for _, r := range []api.Request{{Kind: kind, Name: s}, {Kind: kind, Name: "a", Text: s}, {Kind: kind, Text: s}} {
				if work.Right(r) || w.Do(r).E != api.BadFrame {
					t.Errorf("P901: kind %d, %.10q", kind, s)
				}
			}
		}
	}
}

// P5: what is refused changes nothing, neither what is there nor what a later request is answered.
func TestRefused(t *testing.T) {
	y := newPair(t)
	for i := range 8 {
		name := "abcdefgh"[i : i+1]
		y.do(put(name, strings.Repeat("# "+name, 200)))
		y.do(define(name, i))
	}
	was := toldSource(y.w.Frags(), y.w.Syms())
	for _, r := range []api.Request{
		put("i", "x"), put("", "x"), put("r1", "x"), put("a", strings.Repeat("x", 601)), {Kind: api.RPut, Name: "a", Text: "x", Value: 1}, {Kind: api.RPut, Name: "a", Value: -1},
		del("i"), del(""), {Kind: api.RDel, Name: "a", Text: "x"}, {Kind: api.RDel, Name: "a", Value: 1},
		more("i", "x"), more("a", "x"), more("a", strings.Repeat("x", 601)), more("", ""), {Kind: api.RAppend, Name: "a", Value: 1},
		show("i"), {Kind: api.RShow, Name: "a", Text: "x"},
		define("i", 1), define("a", 1<<40+1), define("a", -1<<40-1), define("", 1), {Kind: api.RDefine, Name: "a", Text: "x", Value: 1},
		undef("i"), undef(""), {Kind: api.RUndef, Name: "a", Text: "x"}, {Kind: api.RUndef, Name: "a", Value: 1},
		{Kind: api.RBuild, Name: "a"}, {Kind: api.RBuild, Text: "x"}, {Kind: api.RBuild, Value: 1}, {}, {Kind: 8}, {Kind: 8, Name: "a"}, {Kind: -1, Name: "a", Text: "x"},
	} {
		if a := y.do(r); a.E == api.OK {
			t.Errorf("P902: %v is not refused", r)
		}
		if got := toldSource(y.w.Frags(), y.w.Syms()); got != was {
			t.Errorf("P5: %v: %s, not %s", r, got, was)
		}
		if a := y.do(build); a.E != api.OK {
			t.Errorf("P5: %v: %v", r, a)
		}
	}
}

// P2: what was handed in is not kept, whatever it is asked for.
func TestNotKept(t *testing.T) {
	d := rand.New(rand.NewSource(93))
	for range 200 {
		a := newAuthor(d)
		y := newPair(t)
		for range 60 {
			r := a.request()
			asked := r
			var spoilName, spoilText func()
			asked.Name, spoilName = loose(r.Name)
			asked.Text, spoilText = loose(r.Text)
			right := work.Right(asked)
			got := y.w.Do(asked)
			if asked != r {
				t.Fatalf("P2: %q became %q", fmt.Sprint(r), fmt.Sprint(asked))
			}
			spoilName()
			spoilText()
			if want := told(y.p.do(r)); told(got) != want || right == (got.E == api.BadFrame) {
				t.Fatalf("P2: %q: %s, not %s", fmt.Sprint(r), told(got), want)
			}
			y.look()
		}
	}
}

// P2: a text that is put behind an empty one, and an empty one that is put behind a text, are no one's but the work's.
func TestEmptyKept(t *testing.T) {
	for _, x := range [][2]string{{"", "behind"}, {"first", ""}, {"first", "behind"}, {"", ""}} {
		y := newPair(t)
		first, spoilFirst := loose(x[0])
		behind, spoilBehind := loose(x[1])
		y.w.Do(put("a", first))
		spoilFirst()
		y.w.Do(more("a", behind))
		spoilBehind()
		if got := y.w.Do(show("a")).Text; got != x[0]+x[1] {
			t.Errorf("P2: %q: %q", x, got)
		}
	}
}

// P2, P3: what was answered may be changed, its spare room and its texts too, and each later call answers as if it had not been.
func TestNewMemory(t *testing.T) {
	d := rand.New(rand.NewSource(94))
	for range 200 {
		a := newAuthor(d)
		y := newPair(t)
		for range 60 {
			spoilAnswer(y.do(a.request()))
			spoilSource(y.w)
			y.look()
			for _, f := range y.w.Frags() {
				spoilAnswer(y.do(show(strings.Clone(f.Name))))
			}
			spoilAnswer(y.do(build))
		}
	}
}

// P2: no text of an answer is one that was handed in, or one that another answer has.
func TestTextsApart(t *testing.T) {
	w := work.New()
	names := []string{"first", "second"}
	texts := []string{"no line", "no other line"}
	l := append(slices.Clone(names), texts...)
	for i, name := range names {
		w.Do(put(name, texts[i]))
		w.Do(define(name, i))
	}
	for range 3 {
		for _, x := range w.Do(build).Diags {
			l = append(l, x.Frag)
		}
		for _, f := range w.Frags() {
			l = append(l, f.Name, f.Text)
		}
		for _, s := range w.Syms() {
			l = append(l, s.Name)
		}
		l = append(l, w.Do(show("first")).Text)
		w.Do(more("first", ""))
		w.Do(more("second", ""))
	}
	for i, s := range l {
		for _, other := range l[:i] {
			if unsafe.StringData(s) == unsafe.StringData(other) {
				t.Fatalf("P2: %q is answered twice from one memory", s)
			}
		}
	}
	if len(l) != 4+3*9 {
		t.Errorf("%d texts", len(l))
	}
}

// long plays a row of requests; all that was answered.
func long(seed int64, w *work.Work, between func()) string {
	a := newAuthor(rand.New(rand.NewSource(seed)))
	var l []string
	for range 200 {
		l = append(l, told(w.Do(a.request())))
		between()
		l = append(l, toldSource(w.Frags(), w.Syms()))
		between()
	}
	return strings.Join(l, "\n")
}

// P3, P7: works side by side do not touch one another: with others' calls between, and each in a goroutine of its own.
func TestSideBySide(t *testing.T) {
	for seed := range int64(20) {
		want := long(seed, work.New(), func() {})
		other := newPair(t)
		d := rand.New(rand.NewSource(seed + 1000))
		a := newAuthor(d)
		got := long(seed, work.New(), func() {
			other.do(a.request())
			work.New().Do(put("a", "x"))
		})
		if got != want {
			t.Fatal("P7: one work touched another")
		}
		answers := make([]string, 4)
		var g sync.WaitGroup
		for i := range answers {
			g.Go(func() { answers[i] = long(seed, work.New(), func() {}) })
		}
		g.Wait()
		for _, got := range answers {
			if got != want {
				t.Fatal("P7: one work touched another")
			}
		}
	}
}

// P7: two works of the same names.
func TestTwo(t *testing.T) {
	one, two := newPair(t), newPair(t)
	for i := range 8 {
		name := "abcdefgh"[i : i+1]
		one.do(put(name, "# one"))
		one.do(define(name, i))
		two.look()
	}
	two.do(put("a", ".byte a\n"))
	two.do(define("a", 9))
	one.look()
	one.do(del("a"))
	one.do(undef("a"))
	two.look()
	if a := two.do(build); fmt.Sprint(a.Image) != "[9]" {
		t.Errorf("P7: %v", a)
	}
	if a := one.do(build); len(a.Image) != 0 || a.E != api.OK {
		t.Errorf("P7: %v", a)
	}
}

func inUse() uint64 {
	var m runtime.MemStats
	runtime.GC()
	runtime.ReadMemStats(&m)
	return m.HeapAlloc
}

// P2, P902: of what is gone nothing is held, nor of a long text of which a short piece was handed in.
func TestNotHeld(t *testing.T) {
	w := work.New()
	start := inUse()
	for i := range 64 {
		long := strings.Repeat("a_name_", 1<<17)
		w.Do(put(long[i%7:i%7+8], long[:600]))
		w.Do(define(long[i%7:i%7+8], i))
		w.Do(put("behind", ""))
		w.Do(more("behind", long[i:i+500]))
		w.Do(more("behind", ""))
		w.Do(more(long[i%7:i%7+8], long[:0]))
		w.Do(show("behind"))
		w.Do(build)
	}
	if now := inUse(); now > start+1<<19 || len(w.Frags()) != 8 || len(w.Syms()) != 7 {
		t.Errorf("%d bytes are held of %d fragments, %d symbols", now-start, len(w.Frags()), len(w.Syms()))
	}
	for i := range 200000 {
		name := fmt.Sprint("n", i)
		for _, r := range []api.Request{del("behind"), put(name, "0123456789012345678901234567890123456789"), define(name, i), del(name), undef(name)} {
			w.Do(r)
		}
	}
	if now := inUse(); now > start+1<<19 || len(w.Frags()) != 7 || len(w.Syms()) != 7 {
		t.Errorf("%d bytes are held of %d fragments, %d symbols", now-start, len(w.Frags()), len(w.Syms()))
	}
	runtime.KeepAlive(w)
}
