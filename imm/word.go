package imm

// word is 32 bits whose sign does not count yet, so that shifts bring in zeros.
type word uint32

func (w word) signed() int { return int(int32(w)) }

// part is the number that so many bits are, from bit number from on.
func (w word) part(from, bits int) int {
	return int(w >> from & (1<<bits - 1))
}

// reads tells the ui by which f and scale give w. Only the byte that stands there can be it, so no other is tried.
func (w word) reads(f, scale int) (ui int, is bool) {
	ui = w.part(8*scale, 8)
	if Back(f, scale, ui) != w.signed() {
		return 0, false
	}
	return ui, true
}

// filled is the word whose bytes are all as f says.
func filled(f int) word {
	if f == 1 {
		return ^word(0)
	}
	return 0
}

// first asks in the order of P101: several f and scale may give one number, and the first of them counts.
func first(ask func(f, scale int) (ui int, is bool)) (int, int, int, bool) {
	for f := range maxFill + 1 {
		for scale := range maxScale + 1 {
			if ui, is := ask(f, scale); is {
				return f, scale, ui, true
			}
		}
	}
	return 0, 0, 0, false
}
