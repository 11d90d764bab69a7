package asm

import (
	"slices"
	"strings"

	"letterpress/api"
	"letterpress/expr"
	"letterpress/line"
)

// deepest is deeper than any expression in a fragment of 5000 bytes. One that is deeper yet could outgrow the stack of those that walk it.
const deepest = 5000

// statement is one, and what the parts find out of it.
type statement struct {
	api.Stmt
	frag   string
	words  [][]string // of each operand
	label  *meaning   // nil: it has none
	equ    *meaning   // nil: it is no SEqu
	amount int        // of an SGrow its size, of an SAlign, SSpace what its expression comes to
	place  int
}

// read is part 1.
func (p *program) read() {
	for _, f := range p.frags {
		p.readOne(f)
	}
}

func (p *program) readOne(f api.Frag) {
	frag := strings.Clone(f.Name)
	l, bad := line.Parse(f.Text)
	for _, x := range l {
		if slices.ContainsFunc(x.Args, tooDeep) {
			bad = append(bad, x.Line)
			continue
		}
		p.list = append(p.list, newStatement(x, frag))
	}
	slices.Sort(bad)
	for _, number := range bad {
		p.diags = append(p.diags, api.Diag{Frag: frag, Line: number, E: api.BadLine})
	}
}

func newStatement(x api.Stmt, frag string) *statement {
	s := &statement{Stmt: x, frag: frag}
	for _, a := range x.Args {
		s.words = append(s.words, expr.Names(a.E))
	}
	if x.Kind == api.SGrow {
		s.amount = shortSize
	}
	return s
}

func tooDeep(a api.Arg) bool { return deeper(a.E, deepest) }

// deeper goes no deeper than that itself.
func deeper(x api.Expr, most int) bool {
	if most == 0 {
		return true
	}
	return slices.ContainsFunc(x.L, func(y api.Expr) bool { return deeper(y, most-1) })
}
