package line

import (
	"strconv"

	"letterpress/api"
	"letterpress/expr"
)

// operandTexts are the operands of x, as they are written.
func operandTexts(x api.Stmt) []string {
	var l []string
	switch x.Kind {
	case api.SAscii:
		l = append(l, `"`+x.Text+`"`)
	case api.SEqu:
		l = append(l, x.Text)
	}
	for _, a := range x.Args {
		l = append(l, operandText(a))
	}
	return l
}

func operandText(a api.Arg) string {
	if a.Reg < 0 {
		return expr.Text(a.E)
	}
	return "r" + strconv.Itoa(a.Reg)
}
