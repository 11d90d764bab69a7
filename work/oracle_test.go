package work_test

import (
	"fmt"
	"math/rand"
	"regexp"
	"sort"
	"strings"
	"testing"

	"letterpress/api"
	"letterpress/asm"
	"letterpress/work"
)

// plain is chapter 9 written a second time, as its words stand: two maps, which are put in order each time that they are told.
type plain struct {
	frags map[string]string
	syms  map[string]int
}

func newPlain() plain { return plain{map[string]string{}, map[string]int{}} }

var (
	wordLike = regexp.MustCompile(`^[a-z_][a-z0-9_]{0,11}$`)
	register = regexp.MustCompile(`^r[0-9]+$`)
)

// right is P901: of each kind the fields that it has are looked at, and whether it has others.
func right(r api.Request) bool {
	only := api.Request{Kind: r.Kind, Name: r.Name}
	switch r.Kind {
	case 1, 3:
		only.Text = r.Text
	case 5:
		only.Value = r.Value
	case 7:
		return r == api.Request{Kind: 7}
	case 2, 4, 6:
	default:
		return false
	}
	word := wordLike.MatchString(r.Name) && !register.MatchString(r.Name)
	return word && r == only && len(r.Text) <= 600 && r.Value >= -1099511627776 && r.Value <= 1099511627776
}

func (p plain) do(r api.Request) (a api.Response) {
	text, is := p.frags[r.Name]
	_, known := p.syms[r.Name]
	switch {
	case !right(r):
		a.E = api.BadFrame
	case r.Kind == 1 && !is && len(p.frags) == 8, r.Kind == 5 && !known && len(p.syms) == 8:
		a.E = api.Limit
	case r.Kind >= 2 && r.Kind <= 4 && !is, r.Kind == 6 && !known:
		a.E = api.Missing
	case r.Kind == 3 && len(text+r.Text) > 600:
		a.E = api.Limit
	case r.Kind == 1:
		p.frags[r.Name] = r.Text
	case r.Kind == 2:
		delete(p.frags, r.Name)
	case r.Kind == 3:
		p.frags[r.Name] = text + r.Text
	case r.Kind == 4:
		a.Text = text
	case r.Kind == 5:
		p.syms[r.Name] = r.Value
	case r.Kind == 6:
		delete(p.syms, r.Name)
	case r.Kind == 7:
		a.Image, a.Diags = asm.Assemble(p.source())
		if len(a.Diags) > 0 {
			a.E = api.Errors
		}
	}
	return a
}

func (p plain) source() (frags []api.Frag, syms []api.Sym) {
	for name, text := range p.frags {
		frags = append(frags, api.Frag{Name: name, Text: text})
	}
	for name, value := range p.syms {
		syms = append(syms, api.Sym{Name: name, Value: value})
	}
	sort.Slice(frags, func(i, j int) bool { return frags[i].Name < frags[j].Name })
	sort.Slice(syms, func(i, j int) bool { return syms[i].Name < syms[j].Name })
	return frags, syms
}

// told is all of an answer.
func told(a api.Response) string {
	return fmt.Sprintf("%d %q %x %v", int(a.E), a.Text, a.Image, a.Diags)
}

func toldSource(frags []api.Frag, syms []api.Sym) string { return fmt.Sprintf("%q %v", frags, syms) }

// pair is a work and what it must be like.
type pair struct {
	t *testing.T
	w *work.Work
	p plain
	l []api.Request // what was done
}

func newPair(t *testing.T) *pair { return &pair{t: t, w: work.New(), p: newPlain()} }

// do holds what a request is answered, and what may be asked behind it, against one another.
func (y *pair) do(r api.Request) api.Response {
	y.t.Helper()
	y.l = append(y.l, r)
	if got, want := work.Right(r), right(r); got != want {
		y.t.Fatalf("P901: %s: %v, not %v", y.done(), got, want)
	}
	a := y.w.Do(r)
	if got, want := told(a), told(y.p.do(r)); got != want {
		y.t.Fatalf("P902: %s: %.300s, not %.300s", y.done(), got, want)
	}
	y.look()
	return a
}

func (y *pair) look() {
	y.t.Helper()
	if got, want := toldSource(y.w.Frags(), y.w.Syms()), toldSource(y.p.source()); got != want {
		y.t.Fatalf("P902: %s: %.900s, not %.900s", y.done(), got, want)
	}
}

func (y *pair) done() string {
	var l []string
	for _, r := range y.l[max(0, len(y.l)-6):] {
		l = append(l, fmt.Sprintf("%.200q", fmt.Sprint(r)))
	}
	return strings.Join(l, ", ")
}

func put(name, text string) api.Request {
	return api.Request{Kind: api.RPut, Name: name, Text: text}
}
func del(name string) api.Request { return api.Request{Kind: api.RDel, Name: name} }
func more(name, text string) api.Request {
	return api.Request{Kind: api.RAppend, Name: name, Text: text}
}
func show(name string) api.Request { return api.Request{Kind: api.RShow, Name: name} }
func define(name string, value int) api.Request {
	return api.Request{Kind: api.RDefine, Name: name, Value: value}
}
func undef(name string) api.Request { return api.Request{Kind: api.RUndef, Name: name} }

var build = api.Request{Kind: api.RBuild}

func pick[T any](d *rand.Rand, l ...T) T { return l[d.Intn(len(l))] }

// author writes requests.
type author struct {
	d     *rand.Rand
	names []string // of fragments and of symbols
	wrong int      // of 100 requests so many are wrong ones
	kinds []int    // some kinds more often than others
}

func newAuthor(d *rand.Rand) *author {
	names := []string{"a", "b", "a_", "a0", "aa", "_", "r", "r1a", "z", "twelve_bytes", "twelve_byte", "n", "x", "y", "ab", "_a"}
	d.Shuffle(len(names), func(i, j int) { names[i], names[j] = names[j], names[i] })
	kinds := []int{1, 2, 3, 4, 5, 6, 7}
	for range d.Intn(10) {
		kinds = append(kinds, pick(d, 1, 1, 1, 3, 5, 5, 5, 7))
	}
	return &author{d: d, names: names[:pick(d, 2, 8, 9, 10, 11, 16)], wrong: pick(d, 0, 0, 5, 20), kinds: kinds}
}

var lines = []string{"", "se_blr\n", "b x\n", "x: se_sc\n", ".byte n, 1\n", ".byte n\n", "y: .half x\n", "# a remark\n", ".equ y, n + x\n", "no line\n", "\n", "se_li r3, n\n", ".align 2\n", ".space 100\n", "bl y", ".ascii \"abc\"\n", "\x00\xff"}

func (a *author) text() string {
	if a.d.Intn(12) == 0 {
		s := pick(a.d, "x", "\n", "se_blr\n", ".byte n\n", "\xff")
		n := pick(a.d, 600, 600, 599, 300, 301, 100)
		return strings.Repeat(s, n)[:n]
	}
	s := ""
	for range a.d.Intn(pick(a.d, 2, 3, 8)) {
		s += pick(a.d, lines...)
	}
	return s
}

func (a *author) request() api.Request {
	if a.d.Intn(100) < a.wrong {
		return a.wrongRequest()
	}
	r := api.Request{Kind: pick(a.d, a.kinds...)}
	if r.Kind != 7 {
		r.Name = pick(a.d, a.names...)
	}
	if r.Kind == 1 || r.Kind == 3 {
		r.Text = a.text()
	}
	if r.Kind == 5 {
		r.Value = pick(a.d, 0, 1, 2, 3, 7, -1, 31, 256, -129, 1<<40, -1<<40)
	}
	return r
}

// wrongRequest is one that may be wrong in one way or in several.
func (a *author) wrongRequest() api.Request {
	return api.Request{
		Kind:  pick(a.d, -1, 0, 1, 2, 3, 4, 5, 6, 7, 8),
		Name:  pick(a.d, "", "r1", "r31", "A", "1", "thirteen_byte", "a b", "a\n", pick(a.d, a.names...)),
		Text:  pick(a.d, "", "", "x", strings.Repeat("x", 600), strings.Repeat("x", 601)),
		Value: pick(a.d, 0, 0, 1, -1, 1<<40, -1<<40, 1<<40+1, -1<<40-1),
	}
}
