package asm

import (
	"slices"
	"strings"

	"letterpress/api"
	"letterpress/isa"
)

// branches are the names of SGrows, by their Op, behind what their size puts ahead.
var branches = [...]string{"b", "bl", "bc"}

const (
	shortMark = "se_"
	longMark  = "e_"
)

// write is part 5, and the image.
func (p *program) write() {
	for _, s := range p.list {
		b, e := p.written(s)
		if e != api.OK {
			p.tell(s, e)
		}
		p.image = append(p.image, b...)
	}
}

func (p *program) written(s *statement) ([]byte, api.Errno) {
	if s.place%2 != 0 && (s.Kind == api.SInst || s.Kind == api.SGrow) {
		return nil, api.Odd
	}
	values, e := p.values(s)
	if e != api.OK {
		return nil, p.fault(s, e)
	}
	b, is := s.way()(values)
	if !is {
		return nil, api.Range
	}
	return b, api.OK
}

func (p *program) values(s *statement) ([]int, api.Errno) {
	var l []int
	for i, a := range s.Args {
		if a.Reg >= 0 {
			l = append(l, a.Reg)
			continue
		}
		n, e := p.value(s, i)
		if e != api.OK {
			return nil, e
		}
		l = append(l, n)
	}
	return l, api.OK
}

// fault is what the error e of an operand of s is told as: if the source has all names of an SEqu, one of them is never known.
func (p *program) fault(s *statement, e api.Errno) api.Errno {
	if s.Kind == api.SEqu && e == api.Name && !slices.ContainsFunc(s.words[0], p.names.lacks) {
		return api.Cycle
	}
	return e
}

// way is what makes the bytes of s, of what its operands come to; false: one of these is not as its kind wants it.
func (s *statement) way() func(values []int) ([]byte, bool) {
	switch s.Kind {
	case api.SInst:
		return s.instruction
	case api.SGrow:
		return s.branch
	case api.SByte, api.SHalf, api.SLong:
		return s.numbers
	case api.SAscii:
		return s.text
	}
	return s.blank
}

func (s *statement) instruction(values []int) ([]byte, bool) { return s.encoded(s.Op, values) }

func (s *statement) branch(values []int) ([]byte, bool) {
	mark := shortMark
	if s.amount == longSize {
		mark = longMark
	}
	op, _ := isa.Find(mark + branches[s.Op])
	return s.encoded(op, values)
}

func (s *statement) encoded(op int, values []int) ([]byte, bool) {
	x := api.Inst{Op: op}
	for i, kind := range strings.Fields(isa.Kinds(op)) {
		n := values[i]
		if aims(kind) {
			n -= s.place
		}
		x.F = append(x.F, n)
	}
	return isa.Encode(x)
}

// aims: whether an operand of that kind tells how far off a place is.
func aims(kind string) bool { return kind == "T8" || kind == "T15" || kind == "T24" }

func (s *statement) numbers(values []int) ([]byte, bool) {
	var b []byte
	bits := 8 * s.width()
	for _, n := range values {
		// What has its sign and what has none both may be.
		if n < -1<<(bits-1) || n >= 1<<bits {
			return nil, false
		}
		for from := bits - 8; from >= 0; from -= 8 {
			b = append(b, byte(n>>from))
		}
	}
	return b, true
}

func (s *statement) text([]int) ([]byte, bool) { return []byte(s.Text), true }

func (s *statement) blank([]int) ([]byte, bool) { return make([]byte, s.length()), true }
