package line

import (
	"strings"

	"letterpress/api"
	"letterpress/isa"
)

// Kinds of operands beside those of instructions; what is neither one of these nor a register is a number that is reckoned.
const (
	word   = "word"
	quoted = "quoted"
)

// row is a statement: its kinds of operands are parted by blanks, as isa.Kinds has them; where it may have more operands than these, the last kind holds for all that are behind.
type row struct {
	name     string
	kind, op int
	kinds    string
	most     int
}

var rows = [...]row{
	{"b", api.SGrow, 0, "number", 1},
	{"bl", api.SGrow, 1, "number", 1},
	{"bc", api.SGrow, 2, "number number number", 3},
	{".byte", api.SByte, 0, "number", 16},
	{".half", api.SHalf, 0, "number", 16},
	{".long", api.SLong, 0, "number", 16},
	{".ascii", api.SAscii, 0, quoted, 1},
	{".align", api.SAlign, 0, "number", 1},
	{".space", api.SSpace, 0, "number", 1},
	{".equ", api.SEqu, 0, word + " number", 2},
}

func find(name string) (row, bool) {
	if op, is := isa.Find(name); is {
		kinds := isa.Kinds(op)
		return row{name, api.SInst, op, kinds, len(strings.Fields(kinds))}, true
	}
	for _, w := range rows {
		if w.name == name {
			return w, true
		}
	}
	return row{}, false
}

// nameOf is the way back from find; no name: there is no such statement.
func nameOf(kind, op int) string {
	if kind == api.SInst {
		return isa.Name(op)
	}
	for _, w := range rows {
		if w.kind == kind && w.op == op {
			return w.name
		}
	}
	return ""
}
