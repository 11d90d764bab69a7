package incr_test

import (
	"fmt"
	"math/rand"
	"regexp"
	"slices"
	"strings"
	"testing"

	"letterpress/api"
	"letterpress/asm"
	"letterpress/expr"
	"letterpress/incr"
	"letterpress/line"
)

// plain is chapter 8 written a second time, as its words stand: one list, that of the last Build, looked through from its front.
type plain struct {
	last   []api.Frag
	parsed int
}

func (p *plain) build(frags []api.Frag) {
	for _, f := range frags {
		i := slices.IndexFunc(p.last, func(x api.Frag) bool { return x.Name == f.Name })
		if i < 0 || p.last[i].Text != f.Text {
			p.parsed++
		}
	}
	p.last = slices.Clone(frags)
}

func (p *plain) users(name string, uses func(text string) []string) (l []string) {
	for _, f := range p.last {
		if slices.Contains(uses(f.Text), name) {
			l = append(l, f.Name)
		}
	}
	return l
}

var wordLike = regexp.MustCompile(`[a-z_][a-z0-9_]*`)

// wordsIn are the words of a text's expressions. They are found in how the expressions are written anew, where numbers have no letters.
func wordsIn(text string) (l []string) {
	for _, s := range strings.Split(text, "\n") {
		x, is := line.One(s)
		if !is {
			continue
		}
		for _, a := range x.Args {
			if a.Reg < 0 {
				l = append(l, wordLike.FindAllString(expr.Text(a.E), -1)...)
			}
		}
	}
	return l
}

// told is what a source assembles to.
func told(image []byte, diags []api.Diag) string {
	if len(diags) > 0 && len(image) > 0 {
		return "both"
	}
	var l []string
	for _, y := range diags {
		l = append(l, fmt.Sprint(y.Frag, y.Line, " ", y.E))
	}
	return fmt.Sprintf("%x", image) + strings.Join(l, ", ")
}

// pair is a builder and what it must be like.
type pair struct {
	t    *testing.T
	b    *incr.Builder
	p    plain
	uses func(text string) []string
	l    []string // what was built
}

func newPair(t *testing.T) *pair { return &pair{t: t, b: incr.New(), uses: wordsIn} }

// build holds a Build and all that may be asked behind it against one another; it tells what was built.
func (y *pair) build(frags []api.Frag, syms []api.Sym, words ...string) string {
	y.t.Helper()
	y.l = append(y.l, fmt.Sprintf("%q %v", frags, syms))
	want := told(asm.Assemble(frags, syms))
	got := told(y.b.Build(frags, syms))
	if got != want {
		y.t.Fatalf("P802: %s: %.300s, not %.300s", y.done(), got, want)
	}
	y.p.build(frags)
	y.look(words)
	return got
}

func (y *pair) look(words []string) {
	y.t.Helper()
	if got, want := y.b.Parsed(), y.p.parsed; got != want {
		y.t.Fatalf("P801: %s: Parsed %d, not %d", y.done(), got, want)
	}
	if got, want := y.b.Held(), len(y.p.last); got != want {
		y.t.Fatalf("P801: %s: Held %d, not %d", y.done(), got, want)
	}
	for _, name := range words {
		if got, want := y.b.Users(name), y.p.users(name, y.uses); !slices.Equal(got, want) {
			y.t.Fatalf("P801: %s: Users(%q): %q, not %q", y.done(), name, got, want)
		}
	}
}

func (y *pair) done() string { return strings.Join(y.l[max(0, len(y.l)-4):], "\n") }

func pick[T any](d *rand.Rand, l ...T) T { return l[d.Intn(len(l))] }

// patterns are lines: a `$` is a word of an expression, a `@` one that stands elsewhere.
var patterns = []string{
	"", "# @ @: b @", "@:", "@: # b @", "se_blr", "@: se_blr", "add r1, r2, r31", "@:add r1,r2,r31#@",
	"b $", "bl . + $", "@: b ($)", "b $ # @", " \tbc $ & 1, 2, $\t", "bc 0, $, .", "bc 0, 1, -$", "e_b $", "se_bc 1, $, $",
	".byte $", ".byte 1,2,$", ".byte $ , $ * 2 , $", ".half 3 & -($ - $)", "@: .long 1 << $", ".long 0xab + $", ".byte 1 # @", ".byte 0xabcdef",
	".align $", ".space $ * 2", ".align 4", ".space 300", ".space 3",
	".equ @, $", ".equ @, 5", ".equ @, . + $", "@: .equ @, $ - $", ".equ @,$#@",
	"se_li r3, $", "e_lwz r1, $, r2", "e_li r5,$*$", "se_bseti r1, $",
	".ascii \"@ @\"", "@: .ascii \"b @ # @\" # @", ".ascii \"#\" # @", ".ascii \"\"",
}

// wrongs are patterns of lines that are none.
var wrongs = []string{"@ @ @", "@", "b", "b @ @", "b @,", "b @, @", ".byte @,", ".byte (@", "@: @: b @", "@ : b @", "b r1 + @", ".equ @", ".equ @, @ +", ".equ 1, @", "b @\r", "b @;", "se_li @, @", "bc @, @", "se_blr @", ".ascii @", ".ascii \"@", ".long 4294967296 + @", "B @", "b\x00@", "b " + strings.Repeat("(", 13) + "@" + strings.Repeat(")", 13), ".byte @" + strings.Repeat(",@", 16)}

// author writes texts, and remembers which words the expressions of each have.
type author struct {
	d           *rand.Rand
	used, other []string
	wrong       int // of 100 lines so many are wrong ones
	of          map[string][]string
}

func newAuthor(d *rand.Rand) *author {
	words := []string{"x", "y", "n", "r", "r1a", "_", "b", "bl", "se_blr", "byte", "equ", "twelve_bytes", "xab", "a", "ab"}
	d.Shuffle(len(words), func(i, j int) { words[i], words[j] = words[j], words[i] })
	n := 1 + d.Intn(6)
	return &author{d: d, used: words[:n], other: words[d.Intn(n):][:pick(d, 3, 8)], wrong: pick(d, 0, 0, 0, 5, 30, 100), of: map[string][]string{}}
}

func (a *author) line() (s string, words []string) {
	s = pick(a.d, patterns...)
	if a.d.Intn(100) < a.wrong {
		s = pick(a.d, wrongs...)
	}
	for strings.Contains(s, "$") {
		w := pick(a.d, a.used...)
		words = append(words, w)
		s = strings.Replace(s, "$", w, 1)
	}
	for strings.Contains(s, "@") {
		s = strings.Replace(s, "@", pick(a.d, a.other...), 1)
	}
	return s, words
}

func (a *author) text() string {
	var l, all []string
	for range a.d.Intn(pick(a.d, 2, 4, 8)) {
		s, words := a.line()
		l = append(l, s)
		all = append(all, words...)
	}
	s := strings.Join(l, "\n") + pick(a.d, "", "\n", "\n\n")
	a.of[s] = all
	return s
}

func (a *author) uses(text string) []string { return a.of[text] }
