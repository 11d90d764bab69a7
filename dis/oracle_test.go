package dis_test

import (
	"fmt"
	"strconv"
	"strings"

	"letterpress/api"
)

// chapter is chapter 2's list of instructions: name, bits, kinds.
const chapter = `
se_illegal 0000
se_isync 0001
se_sc 0002
se_blr 0004
se_bctr 0006
se_not 0020 X
se_neg 0030 X
se_mflr 0080 X
se_mtlr 0090 X
se_mfctr 00a0 X
se_mtctr 00b0 X
se_extzb 00c0 X
se_extsb 00d0 X
se_extzh 00e0 X
se_extsh 00f0 X
se_mr 0100 X Y
se_add 0400 X Y
se_mullw 0500 X Y
se_sub 0600 X Y
se_cmp 0c00 X Y
se_cmpl 0d00 X Y
se_addi 2000 X O5
se_cmpli 2200 X O5
se_subi 2400 X O5
se_cmpi 2a00 X U5
se_or 4400 X Y
se_andc 4500 X Y
se_and 4600 X Y
se_li 4800 X U7
se_bclri 6000 X U5
se_bseti 6400 X U5
se_btsti 6600 X U5
se_srwi 6800 X U5
se_slwi 6c00 X U5
se_lbz 8000 Y M1 X
se_stb 9000 Y M1 X
se_lhz a000 Y M2 X
se_sth b000 Y M2 X
se_lwz c000 Y M4 X
se_stw d000 Y M4 X
se_bc e000 O1 I2 T8
se_b e800 T8
se_bl e900 T8
e_add16i 1c000000 D A S16
e_addi 18008000 D A C8
e_andi 1800c000 A D C8
e_ori 1800d000 A D C8
e_xori 1800e000 A D C8
e_li 70000000 D L20
e_lbz 30000000 D S16 A
e_stb 34000000 D S16 A
e_lha 38000000 D S16 A
e_lwz 50000000 D S16 A
e_stw 54000000 D S16 A
e_lhz 58000000 D S16 A
e_sth 5c000000 D S16 A
e_b 78000000 T24
e_bl 78000001 T24
e_bc 7a000000 O2 I4 T15
e_bcl 7a000001 O2 I4 T15
add 7c000214 D A B
subf 7c000050 D A B
mullw 7c0001d6 D A B
and 7c000038 A D B
or 7c000378 A D B
xor 7c000278 A D B
`

// row is an instruction of the list.
type row struct {
	name  string
	bits  uint32
	size  int
	kinds []string
}

func rowsOf(text string) []row {
	var l []row
	for _, s := range strings.Split(strings.TrimSpace(text), "\n") {
		f := strings.Fields(s)
		n, err := strconv.ParseUint(f[1], 16, 32)
		if err != nil {
			panic(err)
		}
		l = append(l, row{f[0], uint32(n), len(f[1]) / 2, f[2:]})
	}
	return l
}

var rows = rowsOf(chapter)

// end is an operand at an end of what may be: how it is written, its bits.
type end struct {
	text string
	bits uint32
}

// ends are the least and the highest operand of each kind.
var ends = map[string][2]end{
	"X":   {{"r0", 0}, {"r31", 0xf}},
	"Y":   {{"r0", 0}, {"r31", 0xf0}},
	"U5":  {{"0", 0}, {"31", 0x1f0}},
	"U7":  {{"0", 0}, {"127", 0x7f0}},
	"O5":  {{"1", 0}, {"32", 0x1f0}},
	"M1":  {{"0", 0}, {"15", 0xf00}},
	"M2":  {{"0", 0}, {"30", 0xf00}},
	"M4":  {{"0", 0}, {"60", 0xf00}},
	"O1":  {{"0", 0}, {"1", 0x400}},
	"I2":  {{"0", 0}, {"3", 0x300}},
	"T8":  {{". - 256", 0x80}, {". + 254", 0x7f}},
	"D":   {{"r0", 0}, {"r31", 0x3e00000}},
	"A":   {{"r0", 0}, {"r31", 0x1f0000}},
	"B":   {{"r0", 0}, {"r31", 0xf800}},
	"S16": {{"-32768", 0x8000}, {"32767", 0x7fff}},
	"L20": {{"-524288", 0x4000}, {"524287", 0x1f3fff}},
	"C8":  {{"-2147483648", 0x380}, {"2147483647", 0x77f}},
	"O2":  {{"0", 0}, {"3", 0x300000}},
	"I4":  {{"0", 0}, {"15", 0xf0000}},
	"T15": {{". - 32768", 0x8000}, {". + 32766", 0x7ffe}},
	"T24": {{". - 16777216", 0x1000000}, {". + 16777214", 0xfffffe}},
}

// mask is where a kind stands.
func mask(kind string) uint32 {
	if kind == "C8" {
		return 0x7ff
	}
	return ends[kind][0].bits | ends[kind][1].bits
}

// written tells the operand of a kind that stands in w as a source has it; false: no number is written so.
func written(kind string, w uint32) (string, bool) {
	signed := func(n uint32, bits int) int { return int(int32(n<<(32-bits)) >> (32 - bits)) }
	switch kind {
	case "X":
		return "r" + strings.Fields("0 1 2 3 4 5 6 7 24 25 26 27 28 29 30 31")[w%16], true
	case "Y":
		return written("X", w/16)
	case "U5":
		return fmt.Sprint(w / 16 % 32), true
	case "U7":
		return fmt.Sprint(w / 16 % 128), true
	case "O5":
		return fmt.Sprint(w/16%32 + 1), true
	case "M1", "M2", "M4":
		return fmt.Sprint(w / 256 % 16 * uint32(kind[1]-'0')), true
	case "O1":
		return fmt.Sprint(w / 1024 % 2), true
	case "I2":
		return fmt.Sprint(w / 256 % 4), true
	case "T8":
		return away(2 * signed(w, 8)), true
	case "D":
		return fmt.Sprint("r", w>>21%32), true
	case "A":
		return fmt.Sprint("r", w>>16%32), true
	case "B":
		return fmt.Sprint("r", w>>11%32), true
	case "S16":
		return fmt.Sprint(signed(w, 16)), true
	case "L20":
		return fmt.Sprint(signed(w>>11%16<<16|w>>16%32<<11|w%2048, 20)), true
	case "C8":
		return scaled(w)
	case "O2":
		return fmt.Sprint(w >> 20 % 4), true
	case "I4":
		return fmt.Sprint(w >> 16 % 16), true
	case "T15":
		return away(signed(w&0xfffe, 16)), true
	case "T24":
		return away(signed(w&0x1fffffe, 25)), true
	}
	panic("no kind: " + kind)
}

func away(n int) string {
	if n < 0 {
		return fmt.Sprintf(". - %d", -n)
	}
	return fmt.Sprintf(". + %d", n)
}

// scaled is a C8: false, if the same number is written by a lower f or scale.
func scaled(w uint32) (string, bool) {
	of := func(n uint32) int32 {
		b := [2]uint32{0, 0xffffffff}[n>>10]
		at := 8 * (n >> 8 % 4)
		return int32(b&^(255<<at) | n%256<<at)
	}
	v := of(w % 2048)
	for n := range uint32(2048) {
		if of(n) == v {
			return fmt.Sprint(v), n == w%2048
		}
	}
	panic("not reached")
}

// in tells w as that instruction.
func (r row) in(w uint32) (string, bool) {
	rest := w
	for _, k := range r.kinds {
		rest &^= mask(k)
	}
	if rest != r.bits {
		return "", false
	}
	var l []string
	for _, k := range r.kinds {
		s, is := written(k, w)
		if !is {
			return "", false
		}
		l = append(l, s)
	}
	return strings.TrimSuffix(r.name+" "+strings.Join(l, ", "), " "), true
}

// begins tells the instruction that b begins with, by the list alone.
func begins(b []byte) (string, int, bool) {
	size := 2
	if len(b) > 0 && strings.ContainsRune("1357", rune(fmt.Sprintf("%02x", b[0])[0])) {
		size = 4
	}
	if len(b) < size {
		return "", 0, false
	}
	w := uint32(0)
	for _, c := range b[:size] {
		w = w*256 + uint32(c)
	}
	for _, r := range rows {
		if r.size != size {
			continue
		}
		if s, is := r.in(w); is {
			return s, size, true
		}
	}
	return "", 0, false
}

// listed is what List must tell.
func listed(b []byte) []string {
	var l []string
	for at := 0; at < len(b); {
		s, size, is := begins(b[at:])
		switch {
		case is:
		case at+1 == len(b):
			s, size = fmt.Sprintf(".byte %d", b[at]), 1
		default:
			s, size = fmt.Sprintf(".half %d", 256*int(b[at])+int(b[at+1])), 2
		}
		l = append(l, s)
		at += size
	}
	return l
}

// parted is what Frags must tell of these lines: none, where there are more than have names.
func parted(lines []string) []api.Frag {
	var l []api.Frag
	text := ""
	for i, s := range lines {
		text += s + "\n"
		if i+1 < len(lines) && len(text+lines[i+1]+"\n") <= 600 {
			continue
		}
		n := len(l)
		if n == 300 {
			return nil
		}
		l = append(l, api.Frag{Name: fmt.Sprintf("%c%02d", "pqs"[n/100], n%100), Text: text})
		text = ""
	}
	return l
}
