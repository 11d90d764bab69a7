package expr_test

import (
	"fmt"
	"math/big"
	"math/rand"
	"regexp"
	"slices"
	"strconv"

	"letterpress/api"
)

// The chapter, written down a second time and by other means: a text is cut into its pieces, which are split at the sign that binds least; numbers are reckoned without bounds.

var piece = regexp.MustCompile(`^ *(0x[0-9a-f]+|[0-9]+|[a-z_][a-z0-9_]*|<<|>>|[-+*&|().])`)

var levels = [][]string{{"|"}, {"&"}, {"<<", ">>"}, {"+", "-"}, {"*"}}

var kinds = map[string]int{"+": api.EAdd, "-": api.ESub, "*": api.EMul, "&": api.EAnd, "|": api.EOr, "<<": api.EShl, ">>": api.EShr}

func written(kind int) string {
	for s, k := range kinds {
		if k == kind {
			return s
		}
	}
	return "?"
}

// parsed is what P301 says of Parse.
func parsed(s string) (api.Expr, bool) {
	var l []string
	for {
		m := piece.FindStringSubmatch(s)
		if m == nil {
			break
		}
		l = append(l, m[1])
		s = s[len(m[0]):]
	}
	for _, c := range s {
		if c != ' ' {
			return api.Expr{}, false
		}
	}
	x, deep, is := joined(l)
	if !is || deep > 12 {
		return api.Expr{}, false
	}
	return x, true
}

// joined tells what pieces are together, and how deep.
func joined(l []string) (x api.Expr, deep int, is bool) {
	if len(l) == 0 {
		return
	}
	for _, level := range levels {
		at, right := last(l, level)
		if !right {
			return
		}
		if at < 0 {
			continue
		}
		a, deepA, isA := joined(l[:at])
		b, deepB, isB := joined(l[at+1:])
		if !isA || !isB {
			return
		}
		return api.Expr{Kind: kinds[l[at]], L: []api.Expr{a, b}}, max(deepA, deepB), true
	}
	end := len(l) - 1
	switch {
	case l[0] == "-":
		y, deep, is := joined(l[1:])
		return api.Expr{Kind: api.ENeg, L: []api.Expr{y}}, deep + 1, is
	case l[0] == "(" && l[end] == ")":
		y, deep, is := joined(l[1:end])
		return y, deep + 1, is
	case end > 0:
		return
	}
	x, is = alone(l[0])
	return x, 0, is
}

// last is where the last sign of two of that level stands, in no bracket (-1: there is none); false: the brackets are not right.
func last(l, level []string) (at int, right bool) {
	at = -1
	open := 0
	for i, s := range l {
		ahead := i == 0 || l[i-1] == "(" || kinds[l[i-1]] > 0
		switch {
		case s == "(":
			open++
		case s == ")":
			open--
		case open == 0 && slices.Contains(level, s) && !ahead:
			at = i
		}
		if open < 0 {
			return -1, false
		}
	}
	return at, open == 0
}

var (
	word     = regexp.MustCompile(`^[a-z_][a-z0-9_]{0,11}$`)
	register = regexp.MustCompile(`^r[0-9]+$`)
)

func alone(s string) (api.Expr, bool) {
	if s == "." {
		return api.Expr{Kind: api.EHere}, true
	}
	if word.MatchString(s) {
		return api.Expr{Kind: api.EName, Name: s}, !register.MatchString(s)
	}
	base, digits := 10, s
	if len(s) > 2 && s[:2] == "0x" {
		base, digits = 16, s[2:]
	}
	n, is := new(big.Int).SetString(digits, base)
	if !is || n.Sign() < 0 || n.BitLen() > 32 {
		return api.Expr{}, false
	}
	return api.Expr{Kind: api.ENum, N: int(n.Int64())}, true
}

// told is what P301 says of Text, and how deep that is.
func told(x api.Expr) (s string, deep int) {
	child := func(y api.Expr) (string, int) {
		s, deep := told(y)
		if y.Kind >= api.EAdd {
			return "(" + s + ")", deep + 1
		}
		return s, deep
	}
	switch x.Kind {
	case api.ENum:
		return fmt.Sprint(x.N), 0
	case api.EName:
		return x.Name, 0
	case api.EHere:
		return ".", 0
	case api.ENeg:
		s, deep := child(x.L[0])
		return "-" + s, deep + 1
	}
	a, deepA := child(x.L[0])
	b, deepB := child(x.L[1])
	return fmt.Sprintf("%s %s %s", a, written(x.Kind), b), max(deepA, deepB)
}

// reckoned is what P302 says of Eval: nil beside an error.
func reckoned(x api.Expr, here int, syms []api.Sym) (*big.Int, api.Errno) {
	n := new(big.Int)
	switch x.Kind {
	case api.ENum:
		n.SetInt64(int64(x.N))
	case api.EHere:
		n.SetInt64(int64(here))
	case api.EName:
		i := slices.IndexFunc(syms, func(s api.Sym) bool { return s.Name == x.Name })
		if i < 0 {
			return nil, api.Name
		}
		n.SetInt64(int64(syms[i].Value))
	default:
		var l []*big.Int
		for _, y := range x.L {
			m, e := reckoned(y, here, syms)
			if e != api.OK {
				return nil, e
			}
			l = append(l, m)
		}
		if n = done(x.Kind, l); n == nil {
			return nil, api.Range
		}
	}
	if n.CmpAbs(big.NewInt(1<<40)) > 0 {
		return nil, api.Range
	}
	return n, api.OK
}

func done(kind int, l []*big.Int) *big.Int {
	n := new(big.Int)
	if kind == api.ENeg {
		return n.Neg(l[0])
	}
	a, b := l[0], l[1]
	switch kind {
	case api.EAdd:
		return n.Add(a, b)
	case api.ESub:
		return n.Sub(a, b)
	case api.EMul:
		return n.Mul(a, b)
	case api.EAnd:
		return n.And(a, b)
	case api.EOr:
		return n.Or(a, b)
	}
	if b.Sign() < 0 || b.Cmp(big.NewInt(40)) > 0 {
		return nil
	}
	power := new(big.Int).Exp(big.NewInt(2), b, nil)
	if kind == api.EShl {
		return n.Mul(a, power)
	}
	// Div, as a power is above 0, rounds down: what is shifted keeps its sign.
	return n.Div(a, power)
}

// met is what P301 says of Names.
func met(x api.Expr) []string {
	var l []string
	if x.Kind == api.EName {
		l = append(l, x.Name)
	}
	for _, y := range x.L {
		for _, name := range met(y) {
			if !slices.Contains(l, name) {
				l = append(l, name)
			}
		}
	}
	return l
}

// drawn shows an expression with all its fields, so that two are alike if what is drawn is.
func drawn(x api.Expr) string {
	s := strconv.Itoa(x.Kind)
	if x.N != 0 {
		s += fmt.Sprintf(" N%d", x.N)
	}
	if x.Name != "" {
		s += fmt.Sprintf(" %q", x.Name)
	}
	for _, y := range x.L {
		s += " [" + drawn(y) + "]"
	}
	return s
}

// some is an expression that Parse might tell, or that is deeper.
func some(d *rand.Rand, deep int) api.Expr {
	switch k := d.Intn(10); {
	case deep == 0 && k < 5 || k == 0:
		return num([]int{0, 1, 2, 3, 39, 40, 41, 255, 1 << 20, 1<<32 - 1}[d.Intn(10)])
	case deep == 0 || k < 3:
		return name([]string{"a", "b", "_", "r", "low", "high", "twelve_bytes"}[d.Intn(7)])
	case k == 3:
		return api.Expr{Kind: api.EHere}
	case k < 6:
		return api.Expr{Kind: api.ENeg, L: []api.Expr{some(d, deep-1)}}
	}
	return two(api.EAdd+d.Intn(7), some(d, deep-1), some(d, deep-1))
}

// wild is what no Parse tells: each field may be whatever it is.
func wild(d *rand.Rand, deep int) api.Expr {
	pick := func(l ...int) int { return l[d.Intn(len(l))] }
	x := api.Expr{
		Kind: pick(0, 1, 2, 3, 4, 5, 6, 7, 8, 9, 10, 11, 12, -1, -5, 1<<63-1, -1<<63),
		N:    pick(0, 1, -1, 40, 1<<40, 1<<40+1, -1<<40-1, 1<<63-1, -1<<63),
		Name: []string{"", "a", "r1", "A", " ", "\xff", "thirteen_byte", "(", "-"}[d.Intn(9)],
	}
	if deep > 0 {
		for range d.Intn(4) {
			x.L = append(x.L, wild(d, deep-1))
		}
	}
	return x
}

func num(n int) api.Expr { return api.Expr{Kind: api.ENum, N: n} }

func name(s string) api.Expr { return api.Expr{Kind: api.EName, Name: s} }

func neg(x api.Expr) api.Expr { return api.Expr{Kind: api.ENeg, L: []api.Expr{x}} }

func two(kind int, a, b api.Expr) api.Expr { return api.Expr{Kind: kind, L: []api.Expr{a, b}} }

var here = api.Expr{Kind: api.EHere}
