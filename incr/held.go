package incr

import (
	"slices"
	"strings"

	"letterpress/api"
	"letterpress/expr"
	"letterpress/line"
)

// deepest is deeper than any expression in a fragment of 5000 bytes. On one that is deeper yet expr.Names could outgrow the stack.
const deepest = 5000

// held is a fragment, and its lines.
type held struct {
	name, text string
	lines      []statement
}

type statement struct{ api.Stmt }

func read(f api.Frag) *held {
	h := &held{name: strings.Clone(f.Name), text: strings.Clone(f.Text)}
	l, _ := line.Parse(h.text)
	for _, x := range l {
		h.lines = append(h.lines, statement{x})
	}
	h.lines = slices.DeleteFunc(h.lines, statement.tooDeep)
	return h
}

// has: whether name is in an expression of h.
func (h *held) has(name string) bool { return some(h.lines, statement.has, name) }

func (s statement) has(name string) bool { return some(s.Args, inOperand, name) }

func inOperand(a api.Arg, name string) bool { return slices.Contains(expr.Names(a.E), name) }

// some: whether one of l has name.
func some[T any](l []T, has func(T, string) bool, name string) bool {
	return slices.ContainsFunc(l, func(x T) bool { return has(x, name) })
}

func (s statement) tooDeep() bool {
	return slices.ContainsFunc(s.Args, func(a api.Arg) bool { return deeper(a.E, deepest) })
}

// deeper goes no deeper than that itself.
func deeper(x api.Expr, most int) bool {
	if most == 0 {
		return true
	}
	return slices.ContainsFunc(x.L, func(y api.Expr) bool { return deeper(y, most-1) })
}
