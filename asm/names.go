package asm

import (
	"cmp"
	"slices"
	"strings"

	"letterpress/api"
)

// meaning is what a name stands for, if that is known.
type meaning struct {
	value int
	known bool
}

// table holds the names of all symbols, labels and SEqus.
type table map[string]*meaning

func tableOf(syms []api.Sym) table {
	t := table{}
	for _, y := range syms {
		if m, is := t.add(strings.Clone(y.Name)); is {
			*m = meaning{y.Value, true}
		}
	}
	return t
}

// add answers a false if the table had name ahead.
func (t table) add(name string) (*meaning, bool) {
	if m, is := t[name]; is {
		return m, false
	}
	m := &meaning{}
	t[name] = m
	return m, true
}

func (t table) lacks(name string) bool {
	_, is := t[name]
	return !is
}

// known are those of these words that are.
func (t table) known(words []string) []api.Sym {
	var l []api.Sym
	for _, name := range words {
		if m, is := t[name]; is && m.known {
			l = append(l, api.Sym{Name: name, Value: m.value})
		}
	}
	return l
}

func (t table) rising() []api.Sym {
	var l []api.Sym
	for name, m := range t {
		l = append(l, api.Sym{Name: name, Value: m.value})
	}
	slices.SortFunc(l, func(a, b api.Sym) int { return cmp.Compare(a.Name, b.Name) })
	return l
}

// define is part 2.
func (p *program) define() {
	for _, s := range p.list {
		if s.Label != "" {
			s.label = p.defined(s, s.Label)
		}
		if s.Kind == api.SEqu {
			s.equ = p.defined(s, s.Text)
		}
	}
}

func (p *program) defined(s *statement, name string) *meaning {
	m, is := p.names.add(name)
	if !is {
		p.tell(s, api.Twice)
	}
	return m
}
