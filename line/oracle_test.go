package line_test

import (
	"fmt"
	"math/rand"
	"regexp"
	"strings"

	"letterpress/api"
	"letterpress/expr"
	"letterpress/isa"
)

// The chapter, written down a second time and by other means: each statement of its table is one pattern, that a whole line must match.

const (
	lead         = `(?s)^[ \t]*(?:([a-z_][a-z0-9_]{0,11}):)?[ \t]*`
	trail        = `[ \t]*(?:#.*)?$`
	between      = `[ \t]*,[ \t]*`
	registerForm = `r([0-9]|[12][0-9]|3[01])`
	numberForm   = `([^,#"]*)`
	numbersForm  = `([^#"]*)`
	quotedForm   = `"([ !#-~]{0,60})"`
	wordForm     = `([a-z_][a-z0-9_]{0,11})`
)

var (
	registerLike = regexp.MustCompile(`^r[0-9]+$`)
	wordLike     = regexp.MustCompile(`^` + wordForm + `$`)
	nothing      = regexp.MustCompile(lead + trail)
)

// entry is a row of the table: R a register, E an expression, L one to sixteen of them, Q quotes, W a word.
type entry struct {
	name     string
	kind, op int
	operands string
	form     *regexp.Regexp
}

var table = allEntries()

func allEntries() []entry {
	l := []entry{
		{"b", api.SGrow, 0, "E", nil}, {"bl", api.SGrow, 1, "E", nil}, {"bc", api.SGrow, 2, "EEE", nil},
		{".byte", api.SByte, 0, "L", nil}, {".half", api.SHalf, 0, "L", nil}, {".long", api.SLong, 0, "L", nil},
		{".ascii", api.SAscii, 0, "Q", nil},
		{".align", api.SAlign, 0, "E", nil}, {".space", api.SSpace, 0, "E", nil},
		{".equ", api.SEqu, 0, "WE", nil},
	}
	for op := range 66 {
		var operands string
		for _, kind := range strings.Fields(isa.Kinds(op)) {
			if strings.Contains("X Y D A B", kind) {
				operands += "R"
			} else {
				operands += "E"
			}
		}
		l = append(l, entry{isa.Name(op), api.SInst, op, operands, nil})
	}
	for i := range l {
		l[i].form = pattern(l[i])
	}
	return l
}

func pattern(y entry) *regexp.Regexp {
	forms := map[rune]string{'R': registerForm, 'E': numberForm, 'L': numbersForm, 'Q': quotedForm, 'W': wordForm}
	var l []string
	for _, c := range y.operands {
		l = append(l, forms[c])
	}
	s := lead + regexp.QuoteMeta(y.name)
	if len(l) > 0 {
		s += `[ \t]+` + strings.Join(l, between)
	}
	return regexp.MustCompile(s + trail)
}

func isWord(s string) bool { return wordLike.MatchString(s) && !registerLike.MatchString(s) }

// oneBy is what P401 says of One, but for the number of the line.
func oneBy(s string, number int) (api.Stmt, bool) {
	if strings.Contains(s, "\n") {
		return api.Stmt{}, false
	}
	if m := nothing.FindStringSubmatch(s); m != nil {
		switch {
		case m[1] == "":
			return api.Stmt{}, true
		case !isWord(m[1]):
			return api.Stmt{}, false
		}
		return api.Stmt{Line: number, Label: m[1]}, true
	}
	for _, y := range table {
		if !strings.Contains(s, y.name) {
			continue
		}
		if m := y.form.FindStringSubmatch(s); m != nil {
			x, is := filled(y, m[1], m[2:])
			if !is {
				return api.Stmt{}, false
			}
			x.Line = number
			return x, true
		}
	}
	return api.Stmt{}, false
}

// filled is a statement of that row, with that label and these operands.
func filled(y entry, label string, operands []string) (x api.Stmt, is bool) {
	x = api.Stmt{Label: label, Kind: y.kind, Op: y.op}
	is = label == "" || isWord(label)
	for i, c := range y.operands {
		s := operands[i]
		switch c {
		case 'R':
			a := api.Arg{}
			fmt.Sscan(s, &a.Reg)
			x.Args = append(x.Args, a)
		case 'Q':
			x.Text = s
		case 'W':
			x.Text = s
			is = is && isWord(s)
		default:
			l := strings.Split(s, ",")
			is = is && len(l) <= 16
			for _, s := range l {
				e, right := expr.Parse(strings.Trim(s, " \t"))
				x.Args = append(x.Args, api.Arg{Reg: -1, E: e})
				is = is && right
			}
		}
	}
	return x, is
}

// drawn shows all of a statement.
func drawn(x api.Stmt) string {
	s := fmt.Sprintf("%d %q %d %d %q", x.Line, x.Label, x.Kind, x.Op, x.Text)
	for _, a := range x.Args {
		s += fmt.Sprintf(" <%d %s>", a.Reg, drawnExpr(a.E))
	}
	return s
}

func drawnExpr(x api.Expr) string {
	s := fmt.Sprintf("%d %d %q", x.Kind, x.N, x.Name)
	for _, y := range x.L {
		s += " [" + drawnExpr(y) + "]"
	}
	return s
}

// shown is an answer of One: what it tells beside a false, which should be nothing, shows too.
func shown(x api.Stmt, is bool) string {
	if !is && drawn(x) == drawn(api.Stmt{}) {
		return "none"
	}
	return fmt.Sprint(is, " ", drawn(x))
}

func pick[T any](d *rand.Rand, l ...T) T { return l[d.Intn(len(l))] }

// someWord is a word.
func someWord(d *rand.Rand) string {
	return pick(d, "a", "z", "_", "r", "x", "b", "bl", "bc", "add", "se_blr", "r1a", "ra", "r_1", "_r1", "a0", "byte", "twelve_bytes", "r0123456789a", "____________")
}

// someNumber is an expression that Parse tells, whose text is no deeper than may be.
func someNumber(d *rand.Rand, deep int) api.Expr {
	kind := api.ENum + d.Intn(3)
	if deep > 0 {
		kind = api.ENum + d.Intn(11)
	}
	switch {
	case kind == api.ENum:
		return num(pick(d, 0, 1, 2, 7, 31, 255, 4096, 1<<32-1))
	case kind == api.EName:
		return name(someWord(d))
	case kind == api.EHere:
		return here
	case kind == api.ENeg:
		return neg(someNumber(d, deep-1))
	}
	return two(kind, someNumber(d, deep-1), someNumber(d, deep-1))
}

// someQuoted is a text that may stand between quotes.
func someQuoted(d *rand.Rand) string {
	b := make([]byte, pick(d, 0, 1, 2, 5, 59, 60))
	for i := range b {
		b[i] = byte(32 + d.Intn(95))
		if d.Intn(3) == 0 {
			b[i] = pick[byte](d, ' ', '#', ',', ':', '~', '!', '\\', '\'')
		}
		if b[i] == '"' {
			b[i] = '#'
		}
	}
	return string(b)
}

// someStmt is a statement that One tells.
func someStmt(d *rand.Rand) api.Stmt {
	x := api.Stmt{Line: 1}
	if d.Intn(2) == 0 {
		x.Label = someWord(d)
	}
	if x.Label != "" && d.Intn(8) == 0 {
		return x
	}
	y := table[d.Intn(len(table))]
	if d.Intn(2) == 0 {
		y = table[d.Intn(10)]
	}
	x.Kind, x.Op = y.kind, y.op
	for _, c := range y.operands {
		switch c {
		case 'R':
			x.Args = append(x.Args, reg(d.Intn(32)))
		case 'Q':
			x.Text = someQuoted(d)
		case 'W':
			x.Text = someWord(d)
		case 'L':
			for range d.Intn(16) {
				x.Args = append(x.Args, of(someNumber(d, d.Intn(4))))
			}
			fallthrough
		default:
			x.Args = append(x.Args, of(someNumber(d, d.Intn(4))))
		}
	}
	return x
}

// wildExpr and wild are what nobody tells: each field may be whatever it is.
func wildExpr(d *rand.Rand, deep int) api.Expr {
	x := api.Expr{
		Kind: pick(d, 0, 1, 2, 3, 4, 5, 6, 7, 8, 9, 10, 11, 12, -1, -5, 1<<63-1, -1<<63),
		N:    pick(d, 0, 1, -1, 1<<40+1, 1<<63-1, -1<<63),
		Name: pick(d, "", "a", "r1", "A", " ", "\xff", "\n", "thirteen_byte", "("),
	}
	if deep > 0 {
		for range d.Intn(4) {
			x.L = append(x.L, wildExpr(d, deep-1))
		}
	}
	return x
}

func wild(d *rand.Rand) api.Stmt {
	x := api.Stmt{
		Line:  pick(d, 0, 1, -1, 1<<63-1, -1<<63),
		Label: pick(d, "", "", "a", "r1", "a:", " ", "\xff", "\n", "#", "thirteen_byte", strings.Repeat("x", 300)),
		Kind:  pick(d, 0, 1, 2, 3, 4, 5, 6, 7, 8, 9, 10, 11, -1, -2, 255, 1<<32+1, 1<<63-1, -1<<63),
		Op:    pick(d, 0, 0, 1, 2, 3, 5, 42, 43, 65, 66, 67, -1, 255, 1<<32, 1<<63-1, -1<<63),
		Text:  pick(d, "", "a", "\"", "\n", "#", "r1", "\xff\x00", strings.Repeat("x", 300)),
	}
	for range pick(d, 0, 0, 1, 2, 3, 17, 100) {
		x.Args = append(x.Args, api.Arg{Reg: pick(d, 0, 1, 31, 32, -1, -1, -2, 1<<63-1, -1<<63), E: wildExpr(d, d.Intn(3))})
	}
	return x
}

func num(n int) api.Expr { return api.Expr{Kind: api.ENum, N: n} }

func name(s string) api.Expr { return api.Expr{Kind: api.EName, Name: s} }

func neg(x api.Expr) api.Expr { return api.Expr{Kind: api.ENeg, L: []api.Expr{x}} }

func two(kind int, a, b api.Expr) api.Expr { return api.Expr{Kind: kind, L: []api.Expr{a, b}} }

var here = api.Expr{Kind: api.EHere}

func reg(n int) api.Arg { return api.Arg{Reg: n} }

func of(x api.Expr) api.Arg { return api.Arg{Reg: -1, E: x} }
