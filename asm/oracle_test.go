package asm_test

import (
	"fmt"
	"math/rand"
	"slices"
	"strings"

	"letterpress/api"
	"letterpress/asm"
	"letterpress/expr"
	"letterpress/isa"
	"letterpress/line"
)

// The chapter, written down a second time and as plainly as it speaks: lists instead of maps, each round anew, over and over, in order, branches by their bits.

type piece struct {
	frag  string
	x     api.Stmt
	place int
	grown bool
}

// outcome is what the three calls tell of a source.
type outcome struct {
	image []byte
	diags []api.Diag
	syms  []api.Sym
	grown []int
	// rounds tells in how many rounds a branch grew, for the tests' own use.
	rounds int
}

func (o outcome) String() string {
	if len(o.diags) > 0 {
		return diagText(o.diags)
	}
	return fmt.Sprintf("%x %v %v", o.image, o.syms, o.grown)
}

func diagText(l []api.Diag) string {
	var out []string
	for _, d := range l {
		out = append(out, fmt.Sprint(d.Frag, d.Line, " ", d.E))
	}
	return strings.Join(out, ", ")
}

// by is what the chapter says of a source.
func by(frags []api.Frag, syms []api.Sym) outcome {
	pieces, diags := partOne(frags)
	if len(diags) == 0 {
		diags = partTwo(pieces, syms)
	}
	if len(diags) == 0 {
		diags = partThree(pieces, syms)
	}
	if len(diags) > 0 {
		return outcome{diags: diags}
	}
	known, rounds, long := partFour(pieces, syms)
	if long > 4096 {
		return outcome{diags: []api.Diag{{Frag: "", Line: 0, E: api.Large}}, rounds: rounds}
	}
	image, diags := partFive(pieces, known, syms)
	if len(diags) > 0 {
		return outcome{diags: diags, rounds: rounds}
	}
	o := outcome{image: image, syms: slices.Clone(known), rounds: rounds}
	slices.SortFunc(o.syms, func(a, b api.Sym) int { return strings.Compare(a.Name, b.Name) })
	for _, y := range pieces {
		if y.x.Kind == api.SGrow {
			o.grown = append(o.grown, sizeBy(y, syms))
		}
	}
	return o
}

func partOne(frags []api.Frag) (pieces []piece, diags []api.Diag) {
	for _, f := range frags {
		l, bad := line.Parse(f.Text)
		for _, x := range l {
			pieces = append(pieces, piece{frag: f.Name, x: x})
		}
		for _, n := range bad {
			diags = append(diags, api.Diag{Frag: f.Name, Line: n, E: api.BadLine})
		}
	}
	return pieces, diags
}

// namesOf are the label, and the name of an SEqu.
func namesOf(x api.Stmt) []string {
	var l []string
	if x.Label != "" {
		l = append(l, x.Label)
	}
	if x.Kind == api.SEqu {
		l = append(l, x.Text)
	}
	return l
}

func partTwo(pieces []piece, syms []api.Sym) (diags []api.Diag) {
	var ahead []string
	for _, y := range syms {
		ahead = append(ahead, y.Name)
	}
	for _, y := range pieces {
		for _, name := range namesOf(y.x) {
			if slices.Contains(ahead, name) {
				diags = append(diags, api.Diag{Frag: y.frag, Line: y.x.Line, E: api.Twice})
			}
			ahead = append(ahead, name)
		}
	}
	return diags
}

func partThree(pieces []piece, syms []api.Sym) (diags []api.Diag) {
	for _, y := range pieces {
		var may []int
		switch y.x.Kind {
		case api.SAlign:
			may = []int{1, 2, 4, 8, 16}
		case api.SSpace:
			for n := range 1001 {
				may = append(may, n)
			}
		default:
			continue
		}
		x := y.x.Args[0].E
		n, e := expr.Eval(x, 0, syms)
		if strings.Contains(expr.Text(x), ".") || e != api.OK || !slices.Contains(may, n) {
			diags = append(diags, api.Diag{Frag: y.frag, Line: y.x.Line, E: api.Sized})
		}
	}
	return diags
}

func sizeBy(y piece, syms []api.Sym) int {
	switch y.x.Kind {
	case api.SInst:
		return isa.Size(y.x.Op)
	case api.SGrow:
		if y.grown {
			return 4
		}
		return 2
	case api.SByte:
		return len(y.x.Args)
	case api.SHalf:
		return 2 * len(y.x.Args)
	case api.SLong:
		return 4 * len(y.x.Args)
	case api.SAscii:
		return len(y.x.Text)
	case api.SAlign:
		n, _ := expr.Eval(y.x.Args[0].E, 0, syms)
		lack := 0
		for (y.place+lack)%n != 0 {
			lack++
		}
		return lack
	case api.SSpace:
		n, _ := expr.Eval(y.x.Args[0].E, 0, syms)
		return n
	}
	return 0
}

// partFour tells what is known at the end, in how many rounds one grew, and how long all is.
func partFour(pieces []piece, syms []api.Sym) (known []api.Sym, rounds, long int) {
	for {
		long = 0
		known = slices.Clone(syms)
		for i := range pieces {
			pieces[i].place = long
			long += sizeBy(pieces[i], syms)
			if label := pieces[i].x.Label; label != "" {
				known = append(known, api.Sym{Name: label, Value: pieces[i].place})
			}
		}
		known = withEqus(pieces, known)
		if !grewBy(pieces, known) {
			return known, rounds, long
		}
		rounds++
	}
}

func withEqus(pieces []piece, known []api.Sym) []api.Sym {
	done := map[int]bool{}
	for more := true; more; {
		more = false
		for i, y := range pieces {
			if y.x.Kind != api.SEqu || done[i] {
				continue
			}
			if n, e := expr.Eval(y.x.Args[0].E, y.place, known); e == api.OK {
				known = append(known, api.Sym{Name: y.x.Text, Value: n})
				done[i], more = true, true
			}
		}
	}
	return known
}

func grewBy(pieces []piece, known []api.Sym) (grew bool) {
	for i, y := range pieces {
		if y.x.Kind != api.SGrow || y.grown {
			continue
		}
		n, e := expr.Eval(y.x.Args[len(y.x.Args)-1].E, y.place, known)
		off := n - y.place
		if e == api.OK && (off%2 != 0 || off < -256 || off > 254) {
			pieces[i].grown, grew = true, true
		}
	}
	return grew
}

func partFive(pieces []piece, known, syms []api.Sym) (image []byte, diags []api.Diag) {
	for _, y := range pieces {
		e := api.OK
		var b []byte
		values, first := valuesBy(y, known)
		switch {
		case (y.x.Kind == api.SInst || y.x.Kind == api.SGrow) && y.place%2 == 1:
			e = api.Odd
		case first == api.Name && y.x.Kind == api.SEqu && allNamed(y.x.Args[0].E, pieces, syms):
			e = api.Cycle
		case first != api.OK:
			e = first
		default:
			b, e = bytesBy(y, values, syms)
		}
		if e != api.OK {
			diags = append(diags, api.Diag{Frag: y.frag, Line: y.x.Line, E: e})
		}
		image = append(image, b...)
	}
	if len(diags) > 0 {
		return nil, diags
	}
	return image, nil
}

func valuesBy(y piece, known []api.Sym) (l []int, first api.Errno) {
	for _, a := range y.x.Args {
		n := a.Reg
		if a.Reg == -1 {
			var e api.Errno
			n, e = expr.Eval(a.E, y.place, known)
			if first == api.OK {
				first = e
			}
		}
		l = append(l, n)
	}
	return l, first
}

func allNamed(x api.Expr, pieces []piece, syms []api.Sym) bool {
	var all []string
	for _, y := range syms {
		all = append(all, y.Name)
	}
	for _, y := range pieces {
		all = append(all, namesOf(y.x)...)
	}
	for _, name := range expr.Names(x) {
		if !slices.Contains(all, name) {
			return false
		}
	}
	return true
}

func bytesBy(y piece, values []int, syms []api.Sym) ([]byte, api.Errno) {
	switch y.x.Kind {
	case api.SInst:
		x := api.Inst{Op: y.x.Op, F: slices.Clone(values)}
		for i, kind := range strings.Fields(isa.Kinds(x.Op)) {
			if kind[0] == 'T' {
				x.F[i] -= y.place
			}
		}
		b, is := isa.Encode(x)
		if !is {
			return nil, api.Range
		}
		return b, api.OK
	case api.SGrow:
		return branchBy(y, values)
	case api.SByte:
		return numbersBy(values, 1, -128, 255)
	case api.SHalf:
		return numbersBy(values, 2, -32768, 65535)
	case api.SLong:
		return numbersBy(values, 4, -2147483648, 4294967295)
	case api.SAscii:
		return []byte(y.x.Text), api.OK
	case api.SAlign, api.SSpace:
		return make([]byte, sizeBy(y, syms)), api.OK
	}
	return nil, api.OK
}

func numbersBy(values []int, size, least, most int) (b []byte, e api.Errno) {
	for _, n := range values {
		if n < least || n > most {
			return nil, api.Range
		}
		four := []byte{byte(n >> 24), byte(n >> 16), byte(n >> 8), byte(n)}
		b = append(b, four[4-size:]...)
	}
	return b, api.OK
}

// branchBy is a branch by the bits that chapter 2 names.
func branchBy(y piece, values []int) ([]byte, api.Errno) {
	off := values[len(values)-1] - y.place
	op, most, mask := 0, 0, 0
	switch {
	case !y.grown:
		op, most, mask = []int{0xe800, 0xe900, 0xe000}[y.x.Op], 254, 0xff
	case y.x.Op < 2:
		op, most, mask = []int{0x78000000, 0x78000001}[y.x.Op], 1<<24-2, 0x1fffffe
	default:
		op, most, mask = 0x7a000000, 1<<15-2, 0xfffe
	}
	if off%2 != 0 || off < -most-2 || off > most {
		return nil, api.Range
	}
	if y.x.Op == 2 && !y.grown {
		if values[0]&^1 != 0 || values[1]&^3 != 0 {
			return nil, api.Range
		}
		op |= values[0]<<10 | values[1]<<8
	}
	if y.x.Op == 2 && y.grown {
		if values[0]&^3 != 0 || values[1]&^15 != 0 {
			return nil, api.Range
		}
		op |= values[0]<<20 | values[1]<<16
	}
	if !y.grown {
		op |= off / 2 & mask
		return []byte{byte(op >> 8), byte(op)}, api.OK
	}
	op |= off & mask
	return []byte{byte(op >> 24), byte(op >> 16), byte(op >> 8), byte(op)}, api.OK
}

// told is what the three calls tell of a source. What they tell that does not go together shows in it.
func told(frags []api.Frag, syms []api.Sym) string {
	image, diags := asm.Assemble(frags, syms)
	l, named := asm.Symbols(frags, syms)
	sizes, grown := asm.Grown(frags, syms)
	wrong := len(diags) > 0
	if named == wrong || grown == wrong || wrong && len(image)+len(l)+len(sizes) > 0 {
		return fmt.Sprint("not one answer: ", image, diags, l, named, sizes, grown)
	}
	return outcome{image: image, diags: diags, syms: l, grown: sizes}.String()
}

// sourceOf is one fragment, or several, parted by a line `--`: a, b, c ..
func sourceOf(s string) []api.Frag {
	var l []api.Frag
	for i, text := range strings.Split(s, "\n--\n") {
		l = append(l, api.Frag{Name: string(rune('a' + i)), Text: text})
	}
	return l
}

func pick[T any](d *rand.Rand, l ...T) T { return l[d.Intn(len(l))] }

// author writes sources: how often something is wrong, and which names there are, differs from one to the next.
type author struct {
	d     *rand.Rand
	wrong int // of 1000 choices so many are wrong ones
	wide  int // how much a space may be
	names []string
	free  []string // names that are not given yet
	syms  []api.Sym
}

func newAuthor(d *rand.Rand) *author {
	a := &author{d: d, wrong: pick(d, 0, 0, 0, 2, 10, 100), wide: pick(d, 4, 60, 130, 260, 520, 1000)}
	for i := range pick(d, 2, 5, 12, 30) {
		a.names = append(a.names, fmt.Sprint(pick(d, "a", "b", "x_", "r", "zz")+"_", i))
	}
	a.free = slices.Clone(a.names)
	d.Shuffle(len(a.free), func(i, j int) { a.free[i], a.free[j] = a.free[j], a.free[i] })
	for i := range d.Intn(4) {
		y := api.Sym{Name: fmt.Sprint("n", i), Value: pick(d, 0, 1, 2, 4, 8, 16, 100, 254, 1000, -1, -2, 1<<40, -1<<40)}
		a.syms = append(a.syms, y)
	}
	return a
}

func (a *author) errs() bool { return a.d.Intn(1000) < a.wrong }

func (a *author) name() string {
	if a.errs() {
		return "none"
	}
	if len(a.syms) > 0 && a.d.Intn(6) == 0 {
		return pick(a.d, a.syms...).Name
	}
	return pick(a.d, a.names...)
}

// given is a name that was not given yet, if there is one.
func (a *author) given() (string, bool) {
	if a.errs() {
		return a.name(), true
	}
	if len(a.free) == 0 {
		return "", false
	}
	name := a.free[0]
	a.free = a.free[1:]
	return name, true
}

func (a *author) number(deep int) string {
	if deep > 0 && a.d.Intn(2) == 0 {
		sign := pick(a.d, "+", "-", "+", "-", "*", "&", "|", "<<", ">>")
		return fmt.Sprintf("(%s %s %s)", a.number(deep-1), sign, a.number(deep-1))
	}
	switch a.d.Intn(6) {
	case 0:
		return a.name()
	case 1:
		return "."
	case 2:
		return "-" + a.number(0)
	}
	return fmt.Sprint(pick(a.d, 0, 1, 2, 3, 4, 7, 15, 16, 31, 32, 100, 127, 128, 255, 256, 4095, 65535, 1<<32-1))
}

// target is where a branch may go: most are near a name.
func (a *author) target() string {
	switch a.d.Intn(8) {
	case 0:
		return fmt.Sprintf(". %s %d", pick(a.d, "+", "-"), pick(a.d, 0, 2, 4, 252, 254, 256, 258, 260, 1000, 32766))
	case 1:
		return fmt.Sprintf("%s %s %d", a.name(), pick(a.d, "+", "-"), 2*a.d.Intn(130))
	case 2:
		if a.errs() {
			return a.number(2)
		}
	}
	return a.name()
}

func (a *author) line() string {
	s := ""
	if a.d.Intn(3) == 0 {
		if name, is := a.given(); is {
			s = name + ": "
		}
	}
	switch {
	case a.errs():
		return s + pick(a.d, "x", "a: b: se_blr", "add r1, r2", ".byte", ".ascii \"", "r1:", "b", "b 1,2", "\x00")
	case a.errs():
		return s + pick(a.d, ".space ", ".align ") + a.number(2)
	case a.errs():
		return s + pick(a.d, ".byte ", ".half ", ".long ", "se_li r3, ", "se_b ", "e_bc 1, 2, ", "e_li r1, ") + a.number(2)
	case a.errs():
		return s + pick(a.d, ".byte 1", ".ascii \"a\"", ".space 1", ".ascii \"abc\"")
	}
	return s + a.statement()
}

func (a *author) statement() string {
	switch a.d.Intn(12) {
	case 0, 1, 2, 3:
		return pick(a.d, "b ", "bl ", "bc 1, 3, ", "bc "+a.name()+" & 1, 2, ", "bc 0, 0, ") + a.target()
	case 4:
		return fmt.Sprintf(".space %d", 2*a.d.Intn(a.wide/2+1))
	case 5:
		return ".align " + pick(a.d, "1", "2", "4", "8", "16", "2 + 2", "1 << 3")
	case 6:
		return pick(a.d, "se_blr", "add r1, r2, r31", "se_li r31, 127", "e_li r3, "+a.name()+" & 1023", "se_add r3, r24", "e_b "+a.name(), "se_mr r0, r1")
	case 7:
		return pick(a.d, ".half ", ".long ") + a.name() + " & 255, " + a.number(0) + " & 127"
	case 8:
		return ".byte 1, " + a.name() + " & 127"
	case 9:
		return ".ascii \"" + pick(a.d, "", "ab", "#\x20,:", "abcdef") + "\""
	}
	if name, is := a.given(); is {
		return ".equ " + name + ", " + pick(a.d, a.name(), a.name()+" + 2", a.number(1), a.number(2), ".", a.name()+" - "+a.name())
	}
	return ""
}

// source is a whole one. Names that were not given so far are given at its end, most times.
func (a *author) source() []api.Frag {
	var l []string
	for range 1 + a.d.Intn(pick(a.d, 6, 20, 60)) {
		l = append(l, a.line())
	}
	if !a.errs() {
		for _, name := range a.free {
			at := a.d.Intn(len(l) + 1)
			l = slices.Insert(l, at, pick(a.d, name+":", name+": se_blr", ".equ "+name+", "+a.number(1)))
		}
	}
	var frags []api.Frag
	for len(l) > 0 {
		n := 1 + a.d.Intn(len(l))
		frags = append(frags, api.Frag{Name: fmt.Sprint("f", a.d.Intn(5)), Text: strings.Join(l[:n], "\n") + pick(a.d, "", "\n")})
		l = l[n:]
	}
	return frags
}
