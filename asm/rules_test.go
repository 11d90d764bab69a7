package asm_test

import (
	"fmt"
	"math"
	"math/rand"
	"slices"
	"strings"
	"sync"
	"testing"
	"unsafe"

	"letterpress/api"
	"letterpress/asm"
)

// all makes the three calls: what they tell must go together, whatever they are given.
func all(t *testing.T, frags []api.Frag, syms []api.Sym) string {
	t.Helper()
	s := told(frags, syms)
	if strings.HasPrefix(s, "not one answer") {
		t.Errorf("P501, P502: %.300q %v: %s", fmt.Sprint(frags), syms, brief(s))
	}
	return s
}

// P1, P8: any bytes.
func TestAnyBytes(t *testing.T) {
	d := rand.New(rand.NewSource(3))
	pieces := []string{"\n", " ", ":", "#", "\"", ",", ".", "a", "b ", "a:", ".equ ", ".space ", ".byte ", "bc 1,", "1", "0x", "<<", "-", "(", ")", "\x00", "\xff", "é", "r1", "se_blr\n", "\r\n", "--"}
	for range 20000 {
		var frags []api.Frag
		for range d.Intn(4) {
			text := ""
			for range d.Intn(30) {
				text += pick(d, pieces...)
			}
			frags = append(frags, api.Frag{Name: pick(d, "", "a", "b\x00", "\xff", strings.Repeat("x", 100)), Text: text})
		}
		same(t, frags, nil)
	}
}

// P1, P8: symbols that may not be. Values that may not be are refused where they are asked for.
func TestAnySymbols(t *testing.T) {
	d := rand.New(rand.NewSource(4))
	names := []string{"", "a", "b", "n", "a", "A", "r1", "1", ".", " a", "a b", "\xff", "\x00", "é", "thirteen_byte", strings.Repeat("n", 10000), "x:"}
	values := []int{0, 1, 2, -1, 254, 256, 1000, 1001, 1 << 40, -1 << 40, 1<<40 + 1, -1<<40 - 1, 1 << 62, math.MaxInt, math.MinInt}
	lines := []string{"b a", "bc b, n, a", ".byte a, b", ".space n", ".align a", ".long n - n", ".equ x, a + n", "x: .equ y, y", "se_li r3, b", "b .", "e_li r3, a", "b: se_blr", "z: .half z", ".space 0 * a", ".byte a - 1", "b -n"}
	for range 20000 {
		var syms []api.Sym
		for range d.Intn(8) {
			syms = append(syms, api.Sym{Name: pick(d, names...), Value: pick(d, values...)})
		}
		var l []string
		for range d.Intn(6) {
			l = append(l, pick(d, lines...))
		}
		all(t, sourceOf(strings.Join(l, "\n")), syms)
	}
	huge := []api.Sym{{Name: "n", Value: math.MinInt}, {Name: "m", Value: math.MaxInt}}
	for s, want := range map[string]string{"b n": "a1 range", "b m": "a1 range", ".byte n": "a1 range", ".space m": "a1 size", ".align n": "a1 size", ".equ x, n": "a1 range", "bc 1, 1, n - n": "a1 range"} {
		if got := shown(sourceOf(s), huge); got != want {
			t.Errorf("P9: %q: %s, not %s", s, got, want)
		}
	}
}

// Limits: the longest source that may be, with the most symbols.
func TestFullSource(t *testing.T) {
	var syms []api.Sym
	for i := range 60 {
		syms = append(syms, api.Sym{Name: fmt.Sprint("sym", i), Value: i})
	}
	for s, want := range map[string]string{
		"#\n":                 "",
		"\n":                  "",
		"!\n":                 "f1 line, f2 line,",
		"a:\n":                "f2 twice, f3 twice,",
		".space 1000\n":       "0 large",
		".byte sym1\n":        "0 large",
		"b .\n":               "0 large",
		".equ a, a\n":         "f2 twice, f3 twice,",
		".align 3\n":          "f1 size, f2 size,",
		".ascii \"\"\n":       "",
		".space sym0\n":       "",
		"sym0: .equ sym1,1\n": "f1 twice, f1 twice, f2 twice,",
	} {
		frags := slices.Repeat([]api.Frag{{Name: "f", Text: strings.Repeat(s, 5000/len(s))}}, 20)
		if got := shown(frags, syms); got != want && (want == "" || !strings.HasPrefix(got, want)) {
			t.Errorf("P501: many %q: %s", s, brief(got))
		}
	}
	// expressions as deep and as long as a fragment has place for
	for text, want := range map[string]string{
		".byte 1" + strings.Repeat("-1", 2496):      "a1 range",
		".half 1" + strings.Repeat("+1", 2496):      "09c1",
		".half sym1" + strings.Repeat("+sym1", 998): "03e7",
		".space 0" + strings.Repeat("*1", 2495):     "",
		".equ x, 0" + strings.Repeat("|.", 2495):    "",
		"b 0" + strings.Repeat("+.", 2498):          "e800",
		".byte 1, " + strings.Repeat("((", 6) + "1" + strings.Repeat("))", 6) + strings.Repeat("*1", 2480): "0101",
	} {
		if len(text) > 5000 {
			t.Errorf("%d bytes", len(text))
		}
		if got := shown(sourceOf(text), syms); got != want {
			t.Errorf("P501: %q: %s, not %s", brief(text), brief(got), want)
		}
	}
}

// Limits: a source in which each round grows one branch, and many SEqus hang on one another and on each of the rounds.
func TestManyRounds(t *testing.T) {
	l := row(1000)
	for i := range 2000 {
		l = append(l, fmt.Sprintf(".equ e%d, e%d + 1", i, i+1))
	}
	l = append(l, ".equ e2000, l999", ".half e0")
	image, diags := asm.Assemble(parted(l), nil)
	if len(diags) > 0 || len(image) != 4002 || int(image[4000])<<8|int(image[4001]) != 999*4+2000 {
		t.Errorf("P501: %d bytes, %s", len(image), brief(diagText(diags)))
	}
}

// P1, P8: more and longer fragments than the chapter speaks of, so long that what went over all of it with each line would not end.
func TestLongSource(t *testing.T) {
	const n = 1 << 16
	var labels, chain, circle strings.Builder
	for i := range n {
		fmt.Fprintf(&labels, "l%d: .equ k%d, l%d + 1\n", i, i, i)
		fmt.Fprintf(&chain, ".equ e%d, e%d\n", i, i+1)
		fmt.Fprintf(&circle, ".equ e%d, e%d\n", i, (i+1)%n)
	}
	for _, y := range []struct{ s, want string }{
		{labels.String() + ".byte k0, k65535", "0101"},
		{chain.String() + ".equ e65536, 7\n.byte e0", "07"},
		{circle.String(), "a1 cycle, a2 cycle, "},
		{chain.String(), "a1 cycle, a2 cycle, "},
		{chain.String() + ".equ e65536, 1 << 50", "a1 cycle, a2 cycle, "},
		{strings.Repeat("b .\n", n), "0 large"},
		{strings.Repeat(".space 1000\n", n), "0 large"},
		{strings.Repeat("x\n", n), "a1 line, a2 line, "},
		{strings.Repeat("x:\n", n), "a2 twice, a3 twice, "},
		{strings.Repeat(".align 0\n", n), "a1 size, a2 size, "},
		{".equ x, y\n" + strings.Repeat("\n", n), "a1 name"},
		{strings.Repeat(".align 16\n", n) + "se_blr", "0004"},
	} {
		if got := shown(sourceOf(y.s), nil); !strings.HasPrefix(got, y.want) {
			t.Errorf("P501: %q: %s", brief(y.s), brief(got))
		}
	}
	frags := slices.Repeat([]api.Frag{{Name: "f", Text: ".ascii \"\"\n"}}, n)
	frags = append(frags, api.Frag{Name: strings.Repeat("g", n), Text: "se_blr"})
	if got := shown(frags, nil); got != "0004" {
		t.Errorf("P501: %s", brief(got))
	}
	syms := slices.Repeat([]api.Sym{{Name: "n", Value: 3}, {Name: "n", Value: 4}}, n)
	for i := range n {
		syms = append(syms, api.Sym{Name: fmt.Sprint("s", i), Value: i})
	}
	all(t, sourceOf(".byte n\n.half s65535\nb s2"), syms)
	if got := shown(sourceOf(".byte n, 0\n.half s65535\nb s2"), syms); got != "0300ffffe8ff" {
		t.Errorf("of two symbols of one name the first one counts: %s", got)
	}
}

// P1, P8: a line that goes deeper than any stack. It is refused, so that nobody walks it.
func TestDeepLine(t *testing.T) {
	deep := strings.Repeat("+1", 1<<21)
	for _, head := range []string{".byte 1", "x: .equ y, 1", ".space 1", "bc 1, 1, 1"} {
		if got := shown(sourceOf("se_blr\n"+head+deep+"\nq q\n"), nil); got != "a2 line, a3 line" {
			t.Errorf("P1: %s, deep: %s", head, brief(got))
		}
	}
}

// P2: nothing that is handed in is changed, nor what is behind it.
func TestUnchanged(t *testing.T) {
	d := rand.New(rand.NewSource(5))
	for range 500 {
		a := newAuthor(d)
		frags, syms := a.source(), a.syms
		frags = append(frags, api.Frag{Name: "spare", Text: "x"}, api.Frag{Name: "spare", Text: "se_blr"})
		syms = append(syms, api.Sym{Name: "spare", Value: 1}, api.Sym{Name: "none", Value: 2})
		was := fmt.Sprint(frags, syms)
		all(t, frags[:len(frags)-2], syms[:len(syms)-2])
		if fmt.Sprint(frags, syms) != was {
			t.Fatalf("P2: %s: changed", was)
		}
		same(t, frags[:len(frags)-2], syms[:len(syms)-2])
	}
}

// P2, P3, P7: answers are new memory: writing all over one, its spare room too, changes no other one.
func TestNewMemory(t *testing.T) {
	syms := []api.Sym{{Name: "n", Value: 4}, {Name: "m", Value: 6}}
	for _, s := range []string{"a: b a\n.space n\n.equ k, m\nb . + 256", "x\ny", "a:\na:", ".align m", space(4097), "b none\n.equ a, a"} {
		frags := sourceOf(s)
		want := told(frags, syms)
		image, diags := asm.Assemble(frags, syms)
		l, _ := asm.Symbols(frags, syms)
		grown, _ := asm.Grown(frags, syms)
		again, _ := asm.Symbols(frags, syms)
		was := fmt.Sprint(again)
		fill(image, 0xee)
		fill(diags, api.Diag{Frag: "spoilt", Line: -1, E: -1})
		fill(l, api.Sym{Name: "spoilt", Value: -1})
		fill(grown, -1)
		if got := told(frags, syms); got != want {
			t.Errorf("P2, P3: %q: %s, not %s", s, brief(got), brief(want))
		}
		if fmt.Sprint(again) != was {
			t.Errorf("P2: %q: %v, not %s", s, again, was)
		}
		if got := fmt.Sprint(syms); got != "[{n 4} {m 6}]" {
			t.Fatalf("P2: %q: symbols are %s", s, got)
		}
	}
}

func fill[T any](l []T, x T) {
	for i := range l[:cap(l)] {
		l[:cap(l)][i] = x
	}
}

// within: whether two texts share memory.
func within(a, b string) bool {
	if a == "" || b == "" {
		return false
	}
	p, q := uintptr(unsafe.Pointer(unsafe.StringData(a))), uintptr(unsafe.Pointer(unsafe.StringData(b)))
	return p < q+uintptr(len(b)) && q < p+uintptr(len(a))
}

// P2: no answer keeps a text that was handed in.
func TestTextNotKept(t *testing.T) {
	sym := strings.Clone("symbol")
	held := 0
	for _, s := range []string{"label: .equ other, symbol\nb label", "x", "symbol:", ".space label", "b none"} {
		f := api.Frag{Name: strings.Clone("fragment"), Text: strings.Clone(s)}
		frags, syms := []api.Frag{f}, []api.Sym{{Name: sym, Value: 2}}
		_, diags := asm.Assemble(frags, syms)
		l, _ := asm.Symbols(frags, syms)
		var texts []string
		for _, y := range diags {
			texts = append(texts, y.Frag)
		}
		for _, y := range l {
			texts = append(texts, y.Name)
		}
		for _, answer := range texts {
			held++
			if within(answer, f.Name) || within(answer, f.Text) || within(answer, sym) {
				t.Errorf("P2: %q: %q is kept", s, answer)
			}
		}
	}
	if held != 7 {
		t.Errorf("%d texts", held)
	}
}

// P2: no list and an empty one are the same.
func TestNoList(t *testing.T) {
	for _, frags := range [][]api.Frag{nil, {}, {{}}, {{Name: "a"}, {Text: "\n"}}} {
		for _, syms := range [][]api.Sym{nil, {}} {
			if got := told(frags, syms); got != (outcome{}).String() {
				t.Errorf("P2: %v %v: %s", frags, syms, got)
			}
		}
	}
}

// P3, P7: calls side by side do not touch one another.
func TestSideBySide(t *testing.T) {
	frags := parted(row(60))
	syms := []api.Sym{{Name: "n", Value: 4}}
	want := told(frags, syms)
	answers := make([]string, 8)
	var g sync.WaitGroup
	for i := range answers {
		g.Go(func() { answers[i] = told(frags, syms) })
	}
	g.Wait()
	for _, got := range answers {
		if got != want {
			t.Errorf("P3: %s, not %s", brief(got), brief(want))
		}
	}
}

// P1: whatever else there is.
func FuzzAssemble(f *testing.F) {
	for _, s := range []string{"", "a: b a\n.space 300\nb a", ".equ a, b\n.equ b, .\n.align 4", "x\ny: y:", "b n\n.byte n, m\nn:"} {
		f.Add(s, "se_blr\nb a", "n", 5)
	}
	f.Fuzz(func(t *testing.T, one, two, name string, value int) {
		frags := []api.Frag{{Name: "one", Text: one}, {Name: name, Text: two}}
		syms := []api.Sym{{Name: name, Value: value}}
		if len(one)+len(two) > 5000 || value < -1<<40 || value > 1<<40 {
			all(t, frags, syms)
			return
		}
		same(t, frags, syms)
	})
}
