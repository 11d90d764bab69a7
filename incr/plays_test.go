package incr_test

import (
	"fmt"
	"math/rand"
	"slices"
	"strings"
	"testing"

	"letterpress/api"
)

// play changes fragments in one of the ways in which they may change from one Build to the next.
func play(a *author, frags []api.Frag, ever []string) []api.Frag {
	d := a.d
	frags = slices.Clone(frags)
	names := []string{"a", "b", "c", "d", "e", "f", "x", "", "not a word"}
	free := slices.DeleteFunc(names, func(s string) bool {
		return slices.ContainsFunc(frags, func(f api.Frag) bool { return f.Name == s })
	})
	switch n := d.Intn(10); {
	case n == 0:
		return frags
	case n < 4 && len(free) > 0:
		return slices.Insert(frags, d.Intn(len(frags)+1), api.Frag{Name: pick(d, free...), Text: pick(d, a.text(), pick(d, ever...))})
	case len(frags) == 0:
		return nil
	case n < 6:
		frags[d.Intn(len(frags))].Text = pick(d, a.text(), pick(d, ever...))
	case n == 6:
		i := d.Intn(len(frags))
		return slices.Delete(frags, i, i+1)
	case n == 7:
		d.Shuffle(len(frags), func(i, j int) { frags[i], frags[j] = frags[j], frags[i] })
	case n == 8 && len(free) > 0:
		frags[d.Intn(len(frags))].Name = pick(d, free...)
	case n == 9:
		i, j := d.Intn(len(frags)), d.Intn(len(frags))
		frags[i].Name, frags[j].Name = frags[j].Name, frags[i].Name
	}
	return frags
}

// someSyms are symbols of one's words, none twice.
func (a *author) someSyms() (l []api.Sym) {
	for _, name := range a.used {
		if a.d.Intn(2) == 0 {
			l = append(l, api.Sym{Name: name, Value: pick(a.d, 0, 1, 2, 4, 8, 16, 100, 258, 1000, -1, 1<<40, -1<<40)})
		}
	}
	return l
}

// P801, P802: long rows of builds, some of whose sources are right and some wrong, with all that may be asked behind each.
func TestPlays(t *testing.T) {
	d := rand.New(rand.NewSource(81))
	seen := map[string]int{}
	for range 600 {
		a := newAuthor(d)
		y := newPair(t)
		y.uses = a.uses
		words := append(slices.Clone(a.used), "x", "y", "none", "", "r1", "7", "x ", "X", ".", "se_blr", "r", "ab")
		var frags []api.Frag
		ever := []string{""}
		syms := a.someSyms()
		last := ""
		for range 60 {
			frags = play(a, frags, ever)
			for _, f := range frags {
				ever = append(ever, f.Text)
			}
			if d.Intn(3) == 0 {
				syms = a.someSyms()
			}
			got := y.build(frags, syms, words...)
			kind := "image"
			if strings.Contains(got, " ") {
				kind = got[strings.LastIndex(got, " ")+1:]
			}
			seen[kind]++
			if last != "" && (last == "image") != (kind == "image") {
				seen[fmt.Sprint("to ", kind == "image")]++
			}
			last = kind
		}
	}
	for _, kind := range []string{"image", "line", "twice", "size", "name", "cycle", "range", "odd", "to true", "to false"} {
		if seen[kind] < 30 {
			t.Errorf("%s: %d", kind, seen[kind])
		}
	}
}

// P801, P802: all rows of four out of these sources.
func TestAllShortPlays(t *testing.T) {
	const length = 4
	of := func(l ...string) (frags []api.Frag) {
		for i := 0; i < len(l); i += 2 {
			frags = append(frags, api.Frag{Name: l[i], Text: l[i+1]})
		}
		return frags
	}
	sources := [][]api.Frag{
		nil,
		of("a", "b x"),
		of("a", "b x", "c", "x: .byte y"),
		of("c", "x: .byte y", "a", "b x"),
		of("a", "b x", "c", "x: .byte 1"),
		of("a", "x: .byte y", "c", "b x"),
		of("d", "b x", "c", "x: .byte 2 * y"),
		of("a", "b x y\nb y"),
		of("a", "", "c", ""),
		of("a", "b x", "c", "x: .byte y", "d", "b x"),
		of("", ".equ x, y", "a", "b y"),
	}
	rows := 1
	for range length {
		rows *= len(sources)
	}
	for row := range rows {
		y := newPair(t)
		for n, i := row, 0; i < length; n, i = n/len(sources), i+1 {
			y.build(sources[n%len(sources)], []api.Sym{{Name: "y", Value: 2 * i}}[:i%2], "x", "y", "")
		}
	}
}

// P801, P802: sources as long as they may be: 20 fragments of 5000 bytes, of which each Build has other ones.
func TestFullSources(t *testing.T) {
	var syms []api.Sym
	for i := range 60 {
		syms = append(syms, api.Sym{Name: fmt.Sprint("sym", i), Value: i})
	}
	y := newPair(t)
	long := func(s string) string { return strings.Repeat(s, 5000/len(s)) }
	texts := []string{long("#\n"), long("sym1: b sym2\n"), long(".equ a, sym3\n"), long(".space sym0\n"), long("!\n"), ".byte 1" + strings.Repeat("-sym4", 998), long("# sym5\n"), long("\n")}
	for round := range 12 {
		var frags []api.Frag
		for i := range 20 {
			frags = append(frags, api.Frag{Name: fmt.Sprint("f", i*round%20, "_", i), Text: texts[(i+round/2)%len(texts)]})
		}
		y.build(frags, syms, "sym0", "sym1", "sym2", "sym3", "sym4", "sym5", "a")
	}
}

// P1, P801, P802: whatever else there is: two texts, of which a row of builds has one, the other, both.
func FuzzBuilds(f *testing.F) {
	for _, s := range []string{"", "b x", "x: .byte y\n", "x y", ".equ x, y\n.align x", ".ascii \"x\" # y"} {
		f.Add(s, "x: se_blr", "x", "f", []byte{0, 1, 2, 3, 3, 2})
	}
	f.Fuzz(func(t *testing.T, one, two, word, name string, moves []byte) {
		if len(one)+len(two) > 5000 || name == "two" {
			return
		}
		y := newPair(t)
		for _, c := range moves[:min(len(moves), 20)] {
			frags := []api.Frag{{Name: name, Text: one}, {Name: "two", Text: two}}
			switch c % 5 {
			case 1:
				frags = frags[1:]
			case 2:
				frags[0].Text, frags[1].Text = two, one
			case 3:
				slices.Reverse(frags)
			case 4:
				frags = frags[:1]
			}
			y.build(frags, []api.Sym{{Name: "y", Value: int(c)}}[:c%2], word, "x", "y", "")
		}
	})
}
