package dis

import (
	"strconv"
	"strings"

	"letterpress/api"
	"letterpress/isa"
)

// first tells the line of what b, which is not empty, begins with, and its size.
func first(b []byte) (s string, size int) {
	if x, size, is := isa.Decode(b); is {
		return instruction(x), size
	}
	if len(b) == 1 {
		return ".byte " + strconv.Itoa(int(b[0])), 1
	}
	return ".half " + strconv.Itoa(int(b[0])<<8|int(b[1])), 2
}

func instruction(x api.Inst) string {
	name, kinds := isa.Name(x.Op), strings.Fields(isa.Kinds(x.Op))
	if len(kinds) == 0 {
		return name
	}
	l := make([]string, len(kinds))
	for i, kind := range kinds {
		l[i] = operand(kind, x.F[i])
	}
	return name + " " + strings.Join(l, ", ")
}

func operand(kind string, n int) string {
	switch kind {
	case "X", "Y", "D", "A", "B":
		return "r" + strconv.Itoa(n)
	case "T8", "T15", "T24":
		return target(n)
	}
	return strconv.Itoa(n)
}

// target tells how far a branch goes as a source has it, where what is written is the place that it reaches.
func target(n int) string {
	if n < 0 {
		return ". - " + strconv.Itoa(-n)
	}
	return ". + " + strconv.Itoa(n)
}
