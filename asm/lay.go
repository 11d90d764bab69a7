package asm

import (
	"slices"

	"letterpress/api"
	"letterpress/isa"
)

// The sizes of an SGrow.
const (
	shortSize = 2
	longSize  = 4
)

// size is part 3. Only the symbols are known yet.
func (p *program) size() {
	for _, s := range p.list {
		if s.Kind != api.SAlign && s.Kind != api.SSpace {
			continue
		}
		n, e := p.value(s, 0)
		if e != api.OK || hasHere(s.Args[0].E) || !s.mayBe(n) {
			p.tell(s, api.Sized)
		}
		s.amount = n
	}
}

func hasHere(x api.Expr) bool {
	return x.Kind == api.EHere || slices.ContainsFunc(x.L, hasHere)
}

// mayBe: whether n may be the amount of an SAlign, SSpace.
func (s *statement) mayBe(n int) bool {
	if s.Kind == api.SSpace {
		return 0 <= n && n <= api.MaxSpace
	}
	switch n {
	case 1, 2, 4, 8, 16:
		return true
	}
	return false
}

// lay is part 4.
func (p *program) lay() {
	equs := p.order()
	for more := true; more; more = p.grow() {
		// No place is lower in a later round, so what is too long stays so.
		if p.spread() > api.MaxImage {
			p.diags = append(p.diags, api.Diag{E: api.Large})
			return
		}
		p.reckon(equs)
	}
}

// spread gives each statement its place, and tells how long all is.
func (p *program) spread() int {
	place := 0
	for _, s := range p.list {
		s.place = place
		if s.label != nil {
			*s.label = meaning{place, true}
		}
		place += s.length()
	}
	return place
}

func (s *statement) length() int {
	switch s.Kind {
	case api.SInst:
		return isa.Size(s.Op)
	case api.SByte, api.SHalf, api.SLong:
		return s.width() * len(s.Args)
	case api.SAscii:
		return len(s.Text)
	case api.SAlign:
		return (s.amount - s.place%s.amount) % s.amount
	case api.SGrow, api.SSpace:
		return s.amount
	}
	return 0
}

// width is how many bytes each number of an SByte, SHalf, SLong has.
func (s *statement) width() int { return 1 << (s.Kind - api.SByte) }

func (p *program) reckon(equs []*statement) {
	for _, s := range equs {
		n, e := p.value(s, 0)
		*s.equ = meaning{n, e == api.OK}
	}
}

// grow makes those branches long that have to be, and tells whether there was one. It changes no place, so all of a round are held against the same ones.
func (p *program) grow() bool {
	grew := false
	for _, s := range p.list {
		if s.Kind == api.SGrow && s.amount == shortSize && p.misses(s) {
			s.amount = longSize
			grew = true
		}
	}
	return grew
}

// misses: whether s, short, does not reach where it must.
func (p *program) misses(s *statement) bool {
	to, e := p.value(s, len(s.Args)-1)
	if e != api.OK {
		return false
	}
	// Of se_b a T8 is all, and those of the others are as it is.
	op, _ := isa.Find("se_b")
	return !isa.Right(api.Inst{Op: op, F: []int{to - s.place}})
}
