package isa

// row is an instruction: its name, its bits without its operands, its operands' kinds.
type row struct {
	name  string
	bits  word
	kinds string
}

// The numbers of instructions go on from the short ones to the long ones, so where a row stands tells its size.
var short = [...]row{
	{"se_illegal", 0x0000, ""},
	{"se_isync", 0x0001, ""},
	{"se_sc", 0x0002, ""},
	{"se_blr", 0x0004, ""},
	{"se_bctr", 0x0006, ""},
	{"se_not", 0x0020, "X"},
	{"se_neg", 0x0030, "X"},
	{"se_mflr", 0x0080, "X"},
	{"se_mtlr", 0x0090, "X"},
	{"se_mfctr", 0x00a0, "X"},
	{"se_mtctr", 0x00b0, "X"},
	{"se_extzb", 0x00c0, "X"},
	{"se_extsb", 0x00d0, "X"},
	{"se_extzh", 0x00e0, "X"},
	{"se_extsh", 0x00f0, "X"},
	{"se_mr", 0x0100, "X Y"},
	{"se_add", 0x0400, "X Y"},
	{"se_mullw", 0x0500, "X Y"},
	{"se_sub", 0x0600, "X Y"},
	{"se_cmp", 0x0c00, "X Y"},
	{"se_cmpl", 0x0d00, "X Y"},
	{"se_addi", 0x2000, "X O5"},
	{"se_cmpli", 0x2200, "X O5"},
	{"se_subi", 0x2400, "X O5"},
	{"se_cmpi", 0x2a00, "X U5"},
	{"se_or", 0x4400, "X Y"},
	{"se_andc", 0x4500, "X Y"},
	{"se_and", 0x4600, "X Y"},
	{"se_li", 0x4800, "X U7"},
	{"se_bclri", 0x6000, "X U5"},
	{"se_bseti", 0x6400, "X U5"},
	{"se_btsti", 0x6600, "X U5"},
	{"se_srwi", 0x6800, "X U5"},
	{"se_slwi", 0x6c00, "X U5"},
	{"se_lbz", 0x8000, "Y M1 X"},
	{"se_stb", 0x9000, "Y M1 X"},
	{"se_lhz", 0xa000, "Y M2 X"},
	{"se_sth", 0xb000, "Y M2 X"},
	{"se_lwz", 0xc000, "Y M4 X"},
	{"se_stw", 0xd000, "Y M4 X"},
	{"se_bc", 0xe000, "O1 I2 T8"},
	{"se_b", 0xe800, "T8"},
	{"se_bl", 0xe900, "T8"},
}

var long = [...]row{
	{"e_add16i", 0x1c000000, "D A S16"},
	{"e_addi", 0x18008000, "D A C8"},
	{"e_andi", 0x1800c000, "A D C8"},
	{"e_ori", 0x1800d000, "A D C8"},
	{"e_xori", 0x1800e000, "A D C8"},
	{"e_li", 0x70000000, "D L20"},
	{"e_lbz", 0x30000000, "D S16 A"},
	{"e_stb", 0x34000000, "D S16 A"},
	{"e_lha", 0x38000000, "D S16 A"},
	{"e_lwz", 0x50000000, "D S16 A"},
	{"e_stw", 0x54000000, "D S16 A"},
	{"e_lhz", 0x58000000, "D S16 A"},
	{"e_sth", 0x5c000000, "D S16 A"},
	{"e_b", 0x78000000, "T24"},
	{"e_bl", 0x78000001, "T24"},
	{"e_bc", 0x7a000000, "O2 I4 T15"},
	{"e_bcl", 0x7a000001, "O2 I4 T15"},
	{"add", 0x7c000214, "D A B"},
	{"subf", 0x7c000050, "D A B"},
	{"mullw", 0x7c0001d6, "D A B"},
	{"and", 0x7c000038, "A D B"},
	{"or", 0x7c000378, "A D B"},
	{"xor", 0x7c000278, "A D B"},
}

const total = len(short) + len(long)

func rowOf(op int) (row, bool) {
	switch {
	case op < 0 || op >= total:
		return row{}, false
	case op < len(short):
		return short[op], true
	}
	return long[op-len(short)], true
}
