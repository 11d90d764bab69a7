package isa

// word is an instruction's bits, or some of them, where they stand in it.
type word uint32

// operand is an operand as an api.Inst has it.
type operand int

// place is where bits stand, and, where they count, what: from least on, by steps.
type place struct{ from, bits, least, step int }

func (p place) put(n int) word { return word(n&(1<<p.bits-1)) << p.from }

func (p place) take(w word) int { return int(w>>p.from) & (1<<p.bits - 1) }

// places are where an operand stands: but for L20 and C8, whose numbers come in three parts, it is the first of them alone.
type places [3]place

func (p places) put(a, b, c int) word { return p[0].put(a) | p[1].put(b) | p[2].put(c) }

func (p places) take(w word) (a, b, c int) { return p[0].take(w), p[1].take(w), p[2].take(w) }

// kind is a kind of operands: code tells the bits of one (false: it may not be), tell is the way back.
type kind struct {
	at   places
	code func(operand, places) (word, bool)
	tell func(word, places) int
}

func kindOf(name string) kind {
	switch name {
	case "X":
		return kind{places{{from: 0, bits: 4}}, operand.register, word.register}
	case "Y":
		return kind{places{{from: 4, bits: 4}}, operand.register, word.register}
	case "U5":
		return kind{places{{4, 5, 0, 1}}, operand.count, word.count}
	case "U7":
		return kind{places{{4, 7, 0, 1}}, operand.count, word.count}
	case "O5":
		return kind{places{{4, 5, 1, 1}}, operand.count, word.count}
	case "M1":
		return kind{places{{8, 4, 0, 1}}, operand.count, word.count}
	case "M2":
		return kind{places{{8, 4, 0, 2}}, operand.count, word.count}
	case "M4":
		return kind{places{{8, 4, 0, 4}}, operand.count, word.count}
	case "O1":
		return kind{places{{10, 1, 0, 1}}, operand.count, word.count}
	case "I2":
		return kind{places{{8, 2, 0, 1}}, operand.count, word.count}
	case "T8":
		return kind{places{{0, 8, 0, 2}}, operand.signed, word.signed}
	case "D":
		return kind{places{{21, 5, 0, 1}}, operand.count, word.count}
	case "A":
		return kind{places{{16, 5, 0, 1}}, operand.count, word.count}
	case "B":
		return kind{places{{11, 5, 0, 1}}, operand.count, word.count}
	case "S16":
		return kind{places{{0, 16, 0, 1}}, operand.signed, word.signed}
	case "L20":
		return kind{places{{from: 11, bits: 4}, {from: 16, bits: 5}, {from: 0, bits: 11}}, operand.split, word.split}
	case "C8":
		return kind{places{{from: 10, bits: 1}, {from: 8, bits: 2}, {from: 0, bits: 8}}, operand.sci, word.sci}
	case "O2":
		return kind{places{{20, 2, 0, 1}}, operand.count, word.count}
	case "I4":
		return kind{places{{16, 4, 0, 1}}, operand.count, word.count}
	case "T15":
		return kind{places{{1, 15, 0, 2}}, operand.signed, word.signed}
	}
	// T24 is the one that is left.
	return kind{places{{1, 24, 0, 2}}, operand.signed, word.signed}
}
