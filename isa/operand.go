package isa

import "letterpress/imm"

// Four bits hold eight low registers and, behind them, eight high ones.
const (
	half      = 8
	firstHigh = 24
)

const splitBits = 20

func (v operand) register(at places) (word, bool) {
	n := int(v)
	switch {
	case 0 <= n && n < half:
		return at[0].put(n), true
	case firstHigh <= n && n < firstHigh+half:
		return at[0].put(n - firstHigh + half), true
	}
	return 0, false
}

func (w word) register(at places) int {
	n := at[0].take(w)
	if n < half {
		return n
	}
	return n - half + firstHigh
}

func (v operand) count(at places) (word, bool) {
	p := at[0]
	n := (int(v) - p.least) / p.step
	if n < 0 || n >= 1<<p.bits || p.least+n*p.step != int(v) {
		return 0, false
	}
	return p.put(n), true
}

func (w word) count(at places) int { return at[0].least + at[0].take(w)*at[0].step }

func (v operand) signed(at places) (word, bool) {
	p := at[0]
	n := int(v) / p.step
	if n*p.step != int(v) || !imm.Fits(n, p.bits) {
		return 0, false
	}
	return p.put(n), true
}

func (w word) signed(at places) int {
	return imm.Sign(at[0].take(w), at[0].bits) * at[0].step
}

func (v operand) split(at places) (word, bool) {
	if !imm.Fits(int(v), splitBits) {
		return 0, false
	}
	return at.put(imm.Split(int(v))), true
}

func (w word) split(at places) int { return imm.Joined(at.take(w)) }

func (v operand) sci(at places) (word, bool) {
	f, scale, ui, is := imm.Sci8(int(v))
	return at.put(f, scale, ui), is
}

func (w word) sci(at places) int { return imm.Back(at.take(w)) }
