package asm_test

import (
	"fmt"
	"math/rand"
	"strings"
	"testing"

	"letterpress/api"
	"letterpress/asm"
	"letterpress/expr"
	"letterpress/isa"
)

// same holds the three calls against the second writing, and tells what that says.
func same(t *testing.T, frags []api.Frag, syms []api.Sym) outcome {
	t.Helper()
	want := by(frags, syms)
	if got := told(frags, syms); got != want.String() {
		t.Fatalf("P501, P502: %q %v: %s, not %s", frags, syms, got, want)
	}
	return want
}

// P501, P502: sources of many kinds, right ones and wrong ones, against the second writing.
func TestManySources(t *testing.T) {
	d := rand.New(rand.NewSource(1))
	seen := map[string]int{}
	for range 15000 {
		a := newAuthor(d)
		frags := a.source()
		want := same(t, frags, a.syms)
		if len(want.diags) == 0 {
			seen["image"]++
		}
		for _, y := range want.diags {
			seen[y.E.Error()]++
		}
		seen[fmt.Sprint("rounds ", min(want.rounds, 3))]++
		checkReach(t, frags, a.syms)
	}
	for _, kind := range []string{"image", "line", "twice", "size", "large", "odd", "name", "cycle", "range", "rounds 0", "rounds 1", "rounds 2"} {
		if seen[kind] < 10 {
			t.Errorf("%s: %d", kind, seen[kind])
		}
	}
}

// P501: all sources of up to four of these lines.
func TestAllSources(t *testing.T) {
	lines := []string{"a: b c", "b a + 254", ".equ b, c - 256", ".equ c, . + a", "c: .byte b", ".space n", ".align n - 249", "se_li r3, b", "b: a: x", ".space 252", "bc 1, 2, b", "c: .equ a, b"}
	syms := []api.Sym{{Name: "n", Value: 253}}
	var all func(s string, more int)
	all = func(s string, more int) {
		same(t, sourceOf(s), syms)
		if more == 0 {
			return
		}
		for _, l := range lines {
			all(s+"\n"+l, more-1)
		}
	}
	all("", 4)
}

// crowd is branches that are all at the edge of what they reach, so that each one that grows pushes others over it.
func crowd(d *rand.Rand) []api.Frag {
	var l []string
	n := 2 + d.Intn(200)
	for i := range n {
		s := fmt.Sprintf("l%d: ", i)
		switch d.Intn(20) {
		case 0:
			s += fmt.Sprint(".align ", pick(d, 2, 4, 8, 16))
		case 1:
			s += fmt.Sprint(".space ", 2*d.Intn(20))
		case 2:
			s += fmt.Sprintf(".equ e%d, l%d", i, d.Intn(n))
		default:
			to := min(max(i+pick(d, -1, 1)*(40+d.Intn(90)), 0), n-1)
			s += fmt.Sprintf("%s l%d %s %d", pick(d, "b", "bl", "bc 1, 1,"), to, pick(d, "+", "-"), 2*d.Intn(40))
		}
		l = append(l, s)
	}
	return []api.Frag{{Name: "a", Text: strings.Join(l, "\n")}}
}

// P501, P503: how branches grow, in many rounds.
func TestCrowds(t *testing.T) {
	d := rand.New(rand.NewSource(2))
	images, most := 0, 0
	for range 1500 {
		frags := crowd(d)
		want := same(t, frags, nil)
		if len(want.diags) == 0 {
			images++
		}
		most = max(most, want.rounds)
		checkReach(t, frags, nil)
	}
	if images < 1000 || most < 8 {
		t.Errorf("%d images, %d rounds", images, most)
	}
}

// P503, T3: what the calls tell of branches, held against the image. (That long ones had to grow is the second writing's to tell.) Wrong sources are passed by.
func checkReach(t *testing.T, frags []api.Frag, syms []api.Sym) {
	t.Helper()
	image, diags := asm.Assemble(frags, syms)
	if len(diags) > 0 {
		return
	}
	grown, _ := asm.Grown(frags, syms)
	known, _ := asm.Symbols(frags, syms)
	pieces, _ := partOne(frags)
	place := 0
	for _, y := range pieces {
		y.place = place
		if y.x.Kind != api.SGrow {
			place += sizeBy(y, syms)
			continue
		}
		size := grown[0]
		grown = grown[1:]
		x, n, is := isa.Decode(image[place:])
		to, _ := expr.Eval(y.x.Args[len(y.x.Args)-1].E, place, known)
		name := map[int]string{2: "se_", 4: "e_"}[size] + []string{"b", "bl", "bc"}[y.x.Op]
		if !is || n != size || isa.Name(x.Op) != name || x.F[len(x.F)-1] != to-place {
			t.Fatalf("P503: %q: at %d: %v %d, not %s to %d", frags, place, x, n, name, to)
		}
		place += size
	}
	if place != len(image) || len(grown) > 0 {
		t.Fatalf("P501, P502: %q: %d bytes, not %d; %v more", frags, len(image), place, grown)
	}
}
