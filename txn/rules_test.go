package txn_test

import (
	"fmt"
	"math"
	"math/rand"
	"runtime"
	"slices"
	"strings"
	"sync"
	"testing"
	"unsafe"

	"letterpress/api"
	"letterpress/incr"
	"letterpress/store"
	"letterpress/txn"
	"letterpress/work"
)

// loose is a text whose bytes the test can change.
func loose(s string) (string, func()) {
	b := []byte(s)
	return unsafe.String(unsafe.SliceData(b), len(b)), func() { fill(b, '!') }
}

// fill writes all over a list, its spare room too.
func fill[T any](l []T, x T) {
	for i := range l[:cap(l)] {
		l[:cap(l)][i] = x
	}
}

// spoil writes all over a text that was answered, which is new memory.
func spoil(s string) {
	if s != "" {
		fill(unsafe.Slice(unsafe.StringData(s), len(s)), '!')
	}
}

// spoilAnswer writes all over what a request was answered.
func spoilAnswer(d txn.Done) {
	spoil(d.R.Text)
	for _, x := range d.R.Diags {
		spoil(x.Frag)
	}
	fill(d.R.Image, 0xee)
	fill(d.R.Diags, api.Diag{Frag: "spoilt", Line: -1, E: -1})
}

// odd is what may not be in a store, and what may.
var odd = []string{"", "a", "a\n", "b\na\n", "a\na\n", "\n\n", "a\nb", "\xff\n", "A\nr1\nthirteen_byte\n", "a\nb\nc\nd\ne\nf\ng\nh\ni\nj\n", "-", "+1", "1e9", "99999999999999999999", "-1099511627777", "0x10", " 1", "se_blr\n.byte b", "(a)", "\x00", strings.Repeat("x", 2000), strings.Repeat("b a\n", 3000), ".byte 1" + strings.Repeat("-1", 9000)}

// wild does requests of any fields through a store that has anything; all that was answered.
func wild(seed int64) string {
	d := rand.New(rand.NewSource(seed))
	s, b := store.New(pick(d, 0, 3, 10, 1000, math.MaxInt, -1)), incr.New()
	numbers := []int{0, 1, 2, 3, 4, 5, 6, 7, 1, 3, 5, 7, 8, -1, math.MaxInt, math.MinInt, 1 << 40, 1<<40 + 1, 1 << 32}
	names := []string{"a", "b", "a", "b", "", "r1", "\xff", "a\n", "A", strings.Repeat("n", 1<<12)}
	var open []*txn.Txn
	var l []string
	for range 150 {
		switch {
		case d.Intn(3) == 0:
			s.Commit([]store.Write{{Key: pick(d, "d", "e", "fa", "fb", "sa", "sb", "f", "s", "f\xff"), Value: pick(d, odd...), Gone: d.Intn(6) == 0}})
		case d.Intn(10) == 0:
			s.Unpin(s.Now() - d.Intn(3))
			s.Clean()
		case d.Intn(3) == 0:
			r := api.Request{Kind: pick(d, numbers...), Name: pick(d, names...)}
			if r.Kind == 7 && d.Intn(4) > 0 {
				r.Name = ""
			}
			if r.Kind == 1 || r.Kind == 3 || d.Intn(20) == 0 {
				r.Text = pick(d, odd...)
			}
			if r.Kind == 5 || d.Intn(20) == 0 {
				r.Value = pick(d, numbers...)
			}
			open = append(open, txn.Begin(s, b, r))
		case len(open) > 0:
			x := pick(d, open[max(0, len(open)-5):]...)
			if d.Intn(30) == 0 {
				x.Drop()
			}
			l = append(l, told(x.Step()), fmt.Sprint(x.Tries(), s.Now(), s.Count(), b.Parsed(), b.Held()))
		}
	}
	for _, x := range open {
		for n := 0; ; n++ {
			d, is := x.Step()
			l = append(l, told(d, is), fmt.Sprint(x.Tries()))
			if is || n > 40 {
				break
			}
		}
		x.Drop()
		x.Step()
	}
	s.Clean()
	return strings.Join(append(l, held(s, s.Now(), []string{"a", "b"}), fmt.Sprint(s.Now(), s.Count())), "\n")
}

// P1, P3, P8: whatever is asked for, and whatever the store has, each call ends, and the same calls answer the same.
func TestWild(t *testing.T) {
	for seed := range int64(600) {
		if a, b := wild(seed), wild(seed); a != b {
			t.Fatalf("P3: seed %d: %.2000s", seed, a)
		}
	}
}

// P1: texts and lists that are very long, in a request and in a store.
func TestVeryLong(t *testing.T) {
	for _, text := range []string{strings.Repeat("a", 1<<22), strings.Repeat("\n", 1<<18), strings.Repeat("a\n", 1<<17), strings.Repeat("(", 1<<20), strings.Repeat("-", 1<<20), strings.Repeat("9", 1<<20)} {
		for kind := -1; kind < 9; kind++ {
			for _, r := range []api.Request{{Kind: kind, Name: text}, {Kind: kind, Name: "a", Text: text}, {Kind: kind, Text: text}} {
				x := txn.Begin(store.New(9), incr.New(), r)
				if d, is := x.Step(); !is || d.R.E != api.BadFrame {
					t.Errorf("P1002: kind %d, %.10q: %v", kind, text, d)
				}
			}
		}
		for _, key := range []string{"d", "e", "fa", "sa"} {
			s, b := store.New(99), incr.New()
			s.Commit([]store.Write{{Key: "d", Value: "a\n"}})
			s.Commit([]store.Write{{Key: "e", Value: "a\n"}})
			s.Commit([]store.Write{{Key: key, Value: text}})
			for _, r := range []api.Request{put("a", "x"), put("b", "x"), define("b", 1), del("a"), more("a", "x"), show("a"), define("a", 1), undef("a"), build} {
				x := txn.Begin(s, b, r)
				for n := 0; n < 1<<19; n++ {
					if _, is := x.Step(); is {
						break
					}
				}
				if _, is := x.Step(); is || x.Tries() != 1 {
					t.Errorf("P1: %v, %s %.10q: %d tries", r, key, text, x.Tries())
				}
			}
		}
	}
	if got := txn.Join(slices.Repeat([]string{"a"}, 1<<20)); got != strings.Repeat("a\n", 1<<20) {
		t.Errorf("P1001: %d bytes", len(got))
	}
}

// P1: Join of any texts, Parts of any text.
func TestAnyTexts(t *testing.T) {
	for _, s := range odd {
		want := ""
		for _, part := range txn.Parts(s) {
			want += part + "\n"
		}
		if got := txn.Join(txn.Parts(s)); got != want || got != s[:strings.LastIndex(s, "\n")+1] {
			t.Errorf("P1001: %.30q: %.30q", s, got)
		}
	}
}

// P2, P3: what is handed in is not changed, and not kept: neither a request nor Join's and Parts' arguments; what was answered may be changed.
func TestNotKept(t *testing.T) {
	d := rand.New(rand.NewSource(104))
	for range 200 {
		a := newAuthor(d)
		y := newDesk(t, 1000)
		for range 60 {
			r := a.request()
			asked := r
			var spoilName, spoilText func()
			asked.Name, spoilName = loose(r.Name)
			asked.Text, spoilText = loose(r.Text)
			x := y.begin(r)
			x.x = txn.Begin(y.s, y.b, asked)
			if asked != r {
				t.Fatalf("P2: %q became %q", fmt.Sprint(r), fmt.Sprint(asked))
			}
			spoilName()
			spoilText()
			for is := false; !is; {
				var done txn.Done
				done, is = x.step()
				spoilAnswer(done)
			}
			x.same()
		}
	}
}

func TestListsNotKept(t *testing.T) {
	words := []string{"a", "bc", "d", "spare"}[:3]
	if got := txn.Join(words); got != "a\nbc\nd\n" || fmt.Sprint(words[:4]) != "[a bc d spare]" {
		t.Errorf("P2: %q, %q", got, words[:4])
	}
	one, spoilOne := loose("one")
	joined := txn.Join([]string{one})
	spoilOne()
	if joined != "one\n" {
		t.Errorf("P2: %q", joined)
	}
	first, second := txn.Join([]string{"x"}), txn.Join([]string{"x"})
	if spoil(first); second != "x\n" {
		t.Errorf("P2: %q", second)
	}
	text, spoilText := loose("first\nsecond\n\nbehind")
	l := txn.Parts(text)
	other := txn.Parts(text)
	spoilText()
	if fmt.Sprintf("%q", l) != `["first" "second" ""]` {
		t.Errorf("P2: %q", l)
	}
	for _, s := range l {
		spoil(s)
	}
	fill(l, "spoilt")
	if fmt.Sprintf("%q", other) != `["first" "second" ""]` {
		t.Errorf("P2: %q", other)
	}
	twice := txn.Parts("same\nsame\n")
	if spoil(twice[0]); twice[1] != "same" {
		t.Errorf("P2: %q", twice)
	}
}

// P2: no text of an answer is one that another answer or a store has.
func TestTextsApart(t *testing.T) {
	s, b := store.New(100), incr.New()
	do := func(r api.Request) api.Response {
		x := txn.Begin(s, b, r)
		for {
			if d, is := x.Step(); is {
				return d.R
			}
		}
	}
	text := "no line"
	l := []string{text}
	do(put("first", text))
	for range 3 {
		do(more("first", ""))
		l = append(l, do(show("first")).Text, do(build).Diags[0].Frag)
	}
	for i, s := range l {
		for _, other := range l[:i] {
			if unsafe.StringData(s) == unsafe.StringData(other) {
				t.Fatalf("P2: %q is answered twice from one memory", s)
			}
		}
	}
}

// P5: what is refused changes nothing of the program, whoever is asked behind it.
func TestRefused(t *testing.T) {
	for _, r := range []api.Request{put("i", "x"), put("r1", "x"), del("i"), more("i", "x"), more("a", strings.Repeat("x", 600)), show("i"), define("i", 1), define("a", 1<<40+1), undef("i"), {}, {Kind: 8}} {
		y := newDesk(t, 1000)
		for i := range 8 {
			y.whole(put("abcdefgh"[i:i+1], "#"))
			y.whole(define("abcdefgh"[i:i+1], i))
		}
		was, count := held(y.s, 16, y.names), y.s.Count()
		if d, _ := y.whole(r); d.R.E == api.OK || d.Wrote {
			t.Errorf("P1002: %v: %v", r, d)
		}
		if held(y.s, 16, y.names) != was || y.s.Count() != count || y.s.Now() != 16 || held(y.s, y.s.Now(), []string{"i"}) != held(y.s, 16, nil) {
			t.Errorf("P5: %v changed the store", r)
		}
		if d, _ := y.whole(build); d.R.E != api.OK {
			t.Errorf("P5: %v: %v", r, d)
		}
	}
}

// long plays several requests on a store of their own; all that was answered.
func long(seed int64, between func()) string {
	d := rand.New(rand.NewSource(seed))
	a := newAuthor(d)
	s, b := store.New(30), incr.New()
	var open []*txn.Txn
	var l []string
	for range 300 {
		if len(open) < 4 {
			open = append(open, txn.Begin(s, b, a.request()))
			between()
		}
		i := d.Intn(len(open))
		done, is := open[i].Step()
		l = append(l, told(done, is), fmt.Sprint(s.Now(), s.Count(), open[i].Tries()))
		between()
		if is {
			open = slices.Delete(open, i, i+1)
		}
	}
	return strings.Join(l, "\n")
}

// P3, P7: stores side by side do not touch one another: with others' calls between, and each in a goroutine of its own.
func TestSideBySide(t *testing.T) {
	for seed := range int64(20) {
		want := long(seed, func() {})
		d := rand.New(rand.NewSource(seed + 1000))
		a := newAuthor(d)
		other := newDesk(t, 50)
		if got := long(seed, func() { other.whole(a.request()) }); got != want {
			t.Fatal("P7: one store touched another")
		}
		answers := make([]string, 4)
		var g sync.WaitGroup
		for i := range answers {
			g.Go(func() { answers[i] = long(seed, func() {}) })
		}
		g.Wait()
		for _, got := range answers {
			if got != want {
				t.Fatal("P7: one store touched another")
			}
		}
	}
}

// P7: which builder a request is handed does not show in what it is answered, nor in the store.
func TestBuilders(t *testing.T) {
	d := rand.New(rand.NewSource(105))
	a := newAuthor(d)
	s, w := store.New(1000), work.New()
	builders := []*incr.Builder{incr.New(), incr.New(), incr.New()}
	for range 2000 {
		r := a.request()
		x := txn.Begin(s, pick(d, builders...), r)
		for is := false; !is; {
			var done txn.Done
			if done, is = x.Step(); is && told(txn.Done{R: done.R}, true) != told(txn.Done{R: w.Do(r)}, true) {
				t.Fatalf("P7: %v: %v", r, done)
			}
		}
	}
}

func inUse() uint64 {
	var m runtime.MemStats
	runtime.GC()
	runtime.ReadMemStats(&m)
	return m.HeapAlloc
}

// P2: of what has ended or was dropped nothing is held but the object itself, nor of a long text of which a short piece was handed in.
func TestNotHeld(t *testing.T) {
	s, b := store.New(1000), incr.New()
	for i := range 8 {
		txnDo(s, b, put("abcdefgh"[i:i+1], strings.Repeat(".byte 1\n", 70)))
	}
	var l []*txn.Txn
	l = append(l, make([]*txn.Txn, 0, 20000)...)
	start := inUse()
	for i := range 20000 {
		r := []api.Request{build, show("a"), more("a", strings.Repeat("#", 600)), put("a", strings.Repeat("#", 600)), put("A", strings.Repeat("#", 600)), {Text: strings.Repeat("#", 6000)}}[i%6]
		x := txn.Begin(s, b, r)
		steps := 100
		if i%2 == i/6%2 {
			steps = i % 11
		}
		for range steps {
			if _, is := x.Step(); is {
				break
			}
		}
		if r.Kind != 0 && r.Name != "A" || i%2 == 0 {
			x.Drop()
		}
		l = append(l, x)
	}
	if now := inUse(); now > start+20000*200 {
		t.Errorf("%d bytes are held of %d that go no further", now-start, len(l))
	}
	runtime.KeepAlive(l)
	l = nil
	start = inUse()
	for i := range 64 {
		long := strings.Repeat("a_name_", 1<<17)
		l = append(l, txn.Begin(s, b, put(long[i%7:i%7+8], long[:600])), txn.Begin(s, b, put("A", long)), txn.Begin(s, b, put(long, "x")))
	}
	if now := inUse(); now > start+1<<19 {
		t.Errorf("%d bytes are held of %d that have not begun", now-start, len(l))
	}
	runtime.KeepAlive(l)
}

func txnDo(s *store.Store, b *incr.Builder, r api.Request) txn.Done {
	x := txn.Begin(s, b, r)
	for {
		if d, is := x.Step(); is {
			return d
		}
	}
}

// P2: a list of a long text's parts does not hold the text.
func TestPartsNotHeld(t *testing.T) {
	start := inUse()
	var l [][]string
	for range 32 {
		l = append(l, txn.Parts("a\nb\n"+strings.Repeat("x", 1<<20)))
	}
	if now := inUse(); now > start+1<<19 {
		t.Errorf("%d bytes are held", now-start)
	}
	runtime.KeepAlive(l)
}

// P8: what the package's remark says of a store that others have written to.
func TestOddStore(t *testing.T) {
	s, b := store.New(100), incr.New()
	for _, w := range []store.Write{{Key: "d", Value: "b\na\nno word\nb"}, {Key: "fb", Value: ".byte n\n"}, {Key: "fno word", Value: ".byte m\n"}, {Key: "e", Value: "n\nm\nbehind"}, {Key: "sn", Value: "99999999999999999999"}, {Key: "sm", Value: "3 "}, {Key: "fz", Value: "z"}} {
		s.Commit([]store.Write{w})
	}
	for _, x := range []struct {
		r    api.Request
		want api.Response
	}{
		{build, api.Response{Image: []byte{0, 0}}}, {show("a"), api.Response{E: api.Missing}}, {show("z"), api.Response{Text: "z"}}, {more("z", "x"), api.Response{E: api.Missing}},
		{more("a", ".byte 7\n"), api.Response{}}, {build, api.Response{Image: []byte{0, 7, 0}}}, {put("b", ""), api.Response{}}, {del("a"), api.Response{}}, {undef("m"), api.Response{}}, {define("k", 1), api.Response{}}, {undef("behind"), api.Response{E: api.Missing}},
	} {
		if d := txnDo(s, b, x.r); told(txn.Done{R: d.R}, true) != told(txn.Done{R: x.want}, true) {
			t.Errorf("P8: %v: %v, not %v", x.r, d.R, x.want)
		}
	}
	if got, want := held(s, s.Now(), []string{"a", "b", "n", "m", "k"}), `d "b\nno word\n", e "k\nn\n", fb "", sn "99999999999999999999", sk "1", `; got != want {
		t.Errorf("P8: %s, not %s", got, want)
	}
}
