package incr_test

import (
	"fmt"
	"slices"
	"strings"
	"testing"

	"letterpress/api"
	"letterpress/incr"
)

// of is fragments: a name, a text, a name, a text ..
func of(l ...string) (frags []api.Frag) {
	for i := 0; i < len(l); i += 2 {
		frags = append(frags, api.Frag{Name: l[i], Text: l[i+1]})
	}
	return frags
}

// P801: a new builder has built nothing.
func TestNew(t *testing.T) {
	b := incr.New()
	if b.Held() != 0 || b.Parsed() != 0 {
		t.Errorf("P801: Held %d, Parsed %d", b.Held(), b.Parsed())
	}
	for _, name := range []string{"", "x", "r1", ".", "\x00"} {
		if l := b.Users(name); len(l) != 0 {
			t.Errorf("P801: Users(%q): %q", name, l)
		}
	}
}

// P801: a Build of nothing.
func TestNothing(t *testing.T) {
	for _, frags := range [][]api.Frag{nil, {}} {
		for _, syms := range [][]api.Sym{nil, {}, {{Name: "x", Value: 1}}} {
			b := incr.New()
			for range 3 {
				image, diags := b.Build(frags, syms)
				if len(image) != 0 || len(diags) != 0 || b.Held() != 0 || b.Parsed() != 0 || len(b.Users("x")) != 0 {
					t.Errorf("P801: %x %v, Held %d, Parsed %d, %q", image, diags, b.Held(), b.Parsed(), b.Users("x"))
				}
			}
		}
	}
	b := incr.New()
	b.Build(of("a", "b x"), nil)
	b.Build(nil, nil)
	if b.Held() != 0 || b.Parsed() != 1 || len(b.Users("x")) != 0 {
		t.Errorf("P801: Held %d, Parsed %d, %q", b.Held(), b.Parsed(), b.Users("x"))
	}
}

// P801, P802: one builder, build behind build: what each tells, and what may be asked behind it.
func TestRow(t *testing.T) {
	b := incr.New()
	n := api.Sym{Name: "n", Value: 6}
	for i, y := range []struct {
		frags        []api.Frag
		syms         []api.Sym
		want         string
		parsed, held int
	}{
		{of("a", "b x", "c", "x: .byte n"), []api.Sym{n}, "e80106", 2, 2},
		{of("a", "b x", "c", "x: .byte n"), []api.Sym{n}, "e80106", 2, 2},                            // nothing changed
		{of("a", "b x", "c", "x: .byte n"), []api.Sym{{Name: "n", Value: 7}}, "e80107", 2, 2},        // a symbol's value
		{of("a", "b x", "c", "x: .byte n"), nil, "c1 name", 2, 2},                                    // no symbol
		{of("a", "b x", "c", "x: .byte n"), []api.Sym{n, {Name: "x"}}, "c1 twice", 2, 2},             // one more
		{of("c", "x: .byte n", "a", "b x"), []api.Sym{n}, "a1 odd", 2, 2},                            // another order
		{of("c", "x: .byte n, 9", "a", "b x"), []api.Sym{n}, "0609e8ff", 3, 2},                       // another text
		{of("c", "x: .byte n, 9"), []api.Sym{n}, "0609", 3, 1},                                       // one went
		{of("c", "x: .byte n, 9", "a", "b x"), []api.Sym{n}, "0609e8ff", 4, 2},                       // and came again
		{of("d", "x: .byte n, 9", "a", "b x"), []api.Sym{n}, "0609e8ff", 5, 2},                       // another name, the same text
		{of("a", "x: .byte n, 9", "d", "b x"), []api.Sym{n}, "0609e8ff", 7, 2},                       // each other's text
		{of("a", "x: .byte n, 9", "d", "b x", "e", ""), []api.Sym{n}, "0609e8ff", 8, 3},              // one of no text
		{of("a", "x: .byte n, 9", "d", "b x\nb x x", "e", ""), []api.Sym{n}, "d2 line", 9, 3},        // a bad line
		{of("a", "x: .byte n, 9", "d", "b x\nb x x", "e", ""), []api.Sym{n}, "d2 line", 9, 3},        // still
		{of("a", "x: .byte n, 9", "d", "b x\nb x x", "e", ""), nil, "d2 line", 9, 3},                 // still
		{of("a", "x: .byte n, 9\n", "d", "b x\nb x x", "e", ""), []api.Sym{n}, "d2 line", 10, 3},     // it alone stays
		{of("a", "x: .byte n, 9\n", "d", "b x\nb x", "e", " "), []api.Sym{n}, "0609e8ffe8fe", 12, 3}, // no error any more
		{of("a", "x: .byte n, 9\n", "d", "b x\nb x", "e", " "), []api.Sym{{Name: "n", Value: 256}}, "a1 range", 12, 3},
		{nil, []api.Sym{n}, "", 12, 0},
		{of("a", "x: .byte n, 9\n", "d", "b x\nb x", "e", " "), []api.Sym{n}, "0609e8ffe8fe", 15, 3}, // all anew
		{of("", "se_blr"), nil, "0004", 16, 1},
		{of("", "se_blr", " ", "se_sc", "\x00", "x"), nil, "\x001 line", 18, 3},
	} {
		if got := told(b.Build(y.frags, y.syms)); got != y.want {
			t.Errorf("P801, P802: %d: %q, not %q", i, got, y.want)
		}
		if b.Parsed() != y.parsed || b.Held() != y.held {
			t.Errorf("P801: %d: Parsed %d, Held %d, not %d, %d", i, b.Parsed(), b.Held(), y.parsed, y.held)
		}
	}
}

// P801: a text that differs in anything is another one, and its users are told of it.
func TestAnyChange(t *testing.T) {
	texts := []string{"", " ", "\n", "b x", "b x ", "b x\n", "b  x", "b x#", "B x", "b y", "x: b x", "b xx", "b x\x00", "\xff", "\xfe"}
	for _, one := range texts {
		for _, two := range texts {
			b := incr.New()
			b.Build(of("a", one), nil)
			b.Build(of("a", two), nil)
			want := 2
			if one == two {
				want = 1
			}
			if b.Parsed() != want {
				t.Errorf("P801: %q, %q: Parsed %d", one, two, b.Parsed())
			}
			fresh := incr.New()
			fresh.Build(of("a", two), nil)
			if got, want := b.Users("x"), fresh.Users("x"); !slices.Equal(got, want) {
				t.Errorf("P801: %q, %q: %q, not %q", one, two, got, want)
			}
		}
	}
}

// P801: where a name counts, and where it does not.
func TestWhere(t *testing.T) {
	for s, is := range map[string]bool{
		"":                   false,
		"x:":                 false,
		"x: se_blr":          false,
		"x: b y":             false,
		"b y # x":            false,
		"# b x":              false,
		"b y #, x":           false,
		".ascii \"x\"":       false,
		".ascii \" b x # \"": false,
		".ascii \"#\" # b x": false,
		".equ x, 1":          false,
		".equ x, y":          false,
		".equ x, .":          false,
		".equ y, x":          true,
		".equ x, x":          true,
		"b x":                true,
		"\tb\tx\t":           true,
		"b x # y":            true,
		"bl x":               true,
		"bc x, y, z":         true,
		"bc y, x, z":         true,
		"bc y, z, x":         true,
		"bc y, z, y":         false,
		".byte x":            true,
		".half 1,2,x":        true,
		".long 1, x, 2":      true,
		".long 1, xx, 0x2":   false,
		".byte" + strings.Repeat(" y,", 15) + "x": true,
		".align x":        true,
		".space x":        true,
		".space 1 + x":    true,
		"se_li r1, x":     true,
		"e_lwz r1, x, r2": true,
		"e_lwz r1, y, r2": false,
		"se_bc 1, x, y":   true,
		"e_b x":           true,
		"add r1, r2, r3":  false,
		"b -x":            true,
		"b (x)":           true,
		"b -(-(1 + x))":   true,
		"b y + x":         true,
		"b x + y":         true,
		"b y*x":           true,
		"b 1<<x":          true,
		"b y & z | x":     true,
		"b . - x + .":     true,
		"b 1" + strings.Repeat("+1", 1000) + "+x":                      true,
		"b x" + strings.Repeat("+1", 1000):                             true,
		"b " + strings.Repeat("(", 12) + "x" + strings.Repeat(")", 12): true,
		"b " + strings.Repeat("-", 12) + "x":                           true,
		"b y\nb z\n\nb x":                                              true,
		"b y\n\nb z":                                                   false,
		"b xx":                                                         false,
		"b x_":                                                         false,
		"b _x":                                                         false,
		"b x0":                                                         false,
		"b ax":                                                         false,
		"b 0xa":                                                        false,
		"b y\n# x\nx:\n.ascii \"x\"":                                   false,
		// a line of errors is no line
		"b x x":        false,
		"x":            false,
		"x x":          false,
		"b x,":         false,
		"bc x, x":      false,
		"b (x":         false,
		"b x)":         false,
		".byte x,":     false,
		".byte x, 1 2": false,
		"add x, x, x":  false,
		"se_li x, 1":   false,
		".equ 1, x":    false,
		"1: b x":       false,
		"r1: b x":      false,
		"y: z: b x":    false,
		"b x\r":        false,
		"b\u00a0x":     false,
		"b " + strings.Repeat("(", 13) + "x" + strings.Repeat(")", 13): false,
		".byte x" + strings.Repeat(",1", 16):                           false,
		// the other lines of such a fragment count
		"b x x\nb x":    true,
		"b x\nwrong":    true,
		"wrong\n\nb x":  true,
		"b x x\nb y\nx": false,
		// what assembles to an error counts all the same
		"b x\ny:\ny:":         true,
		".align x\n.space -1": true,
		"x: .equ x, x":        true,
		".byte x << 41":       true,
		"b x\n.space 1000\n.space 1000\n.space 1000\n.space 1000\n.space 1000": true,
	} {
		var want []string
		if is {
			want = []string{"frag"}
		}
		b := incr.New()
		for range 2 {
			b.Build(of("frag", s), nil)
			if got := b.Users("x"); !slices.Equal(got, want) {
				t.Errorf("P801: %.200q: Users %q", s, got)
			}
		}
		if got := slices.Contains(wordsIn(s), "x"); got != is {
			t.Errorf("%.200q: the second writing says %v", s, got)
		}
	}
}

// P801: of several fragments those that have the name, in order, each once.
func TestUsers(t *testing.T) {
	b := incr.New()
	frags := of("c", "b x\nb x\n.byte x, x * x", "a", "b y", "d", ".byte x, y\nb x", "b", "x:\n# x", "x", "y: b none")
	ask := func(name string, want ...string) {
		t.Helper()
		if got := b.Users(name); !slices.Equal(got, want) {
			t.Errorf("P801: Users(%q): %q, not %q", name, got, want)
		}
	}
	b.Build(frags, nil)
	ask("x", "c", "d")
	ask("y", "a", "d")
	ask("none", "x")
	slices.Reverse(frags)
	b.Build(frags, nil)
	ask("x", "d", "c")
	ask("y", "d", "a")
	frags[0], frags[1].Text = api.Frag{Name: "e", Text: "bl y"}, "b x"
	b.Build(frags, nil)
	ask("x", "b", "d", "c")
	ask("y", "e", "d", "a")
	ask("none")
	b.Build(frags[1:3], nil)
	ask("x", "b", "d")
	ask("y", "d")
	b.Build(of("d", "b y\nb y", "q", "wrong\nb x"), nil)
	ask("x", "q")
	ask("y", "d")
	for _, name := range []string{"", "z", "X", " x", "x ", "x\n", "(x)", "-x", "x + x", "r1", "r31", "1", ".", "b", "wrong", "q", "d", "\x00", "\xff", "#", "\"", strings.Repeat("x", 13), strings.Repeat("x", 1<<20)} {
		ask(name)
	}
}

// P801: words of all kinds are asked for by what they are, registers are none.
func TestWords(t *testing.T) {
	for name, is := range map[string]bool{"x": true, "_": true, "r": true, "r1a": true, "r_1": true, "ra": true, "b": true, "se_blr": true, "twelve_bytes": true, "x0123456789_": true, "r1": false, "r31": false, "r99": false, "thirteen_byte": false, "X": false, "0x": false, "7": false} {
		b := incr.New()
		b.Build(of("a", "b "+name, "c", "b none", "d", ".byte 1, 2 * "+name+" - 1"), nil)
		var want []string
		if is {
			want = []string{"a", "d"}
		}
		if got := b.Users(name); !slices.Equal(got, want) {
			t.Errorf("P801: Users(%q): %q, not %q", name, got, want)
		}
	}
	b := incr.New()
	b.Build(of("a", "add r1, r2, r3", "b", "se_li r3, 0xab + 0b", "c", ".byte 7"), nil)
	for _, name := range []string{"r1", "r2", "r3", "xab", "ab", "7", "add", "se_li"} {
		if got := b.Users(name); len(got) > 0 {
			t.Errorf("P801: Users(%q): %q", name, got)
		}
	}
}

// P801: to ask changes nothing.
func TestAsking(t *testing.T) {
	b := incr.New()
	for i := range 5 {
		b.Build(of("a", "b x\nwrong", "c", "x:"), nil)
		for range 3 {
			if got := fmt.Sprint(b.Parsed(), b.Held(), b.Users("x"), b.Users("none")); got != "2 2 [a] []" {
				t.Errorf("P801, P3: %d: %s", i, got)
			}
		}
	}
}

func ExampleBuilder_Build() {
	b := incr.New()
	frags := []api.Frag{{Name: "main", Text: "b end"}, {Name: "rest", Text: ".byte n, 2\nend: se_blr"}}
	image, diags := b.Build(frags, []api.Sym{{Name: "n", Value: 1}})
	fmt.Printf("%x %v\n", image, diags)
	frags[0].Text = "bl end"
	image, diags = b.Build(frags, []api.Sym{{Name: "n", Value: 3}})
	fmt.Printf("%x %v\n", image, diags)
	fmt.Println(b.Parsed(), b.Held(), b.Users("n"), b.Users("end"))
	// Output:
	// e80201020004 []
	// e90203020004 []
	// 3 2 [rest] [main]
}
