package expr

import (
	"strconv"
	"strings"

	"letterpress/api"
)

type writer struct{ out strings.Builder }

func (w *writer) write(x api.Expr) {
	if !formed(x) {
		return
	}
	switch x.Kind {
	case api.ENum:
		w.out.WriteString(strconv.Itoa(x.N))
	case api.EName:
		w.out.WriteString(x.Name)
	case api.EHere:
		w.out.WriteString(".")
	case api.ENeg:
		w.out.WriteString("-")
		w.child(x.L[0])
	default:
		w.child(x.L[0])
		w.out.WriteString(" " + sign(x.Kind) + " ")
		w.child(x.L[1])
	}
}

func (w *writer) child(x api.Expr) {
	if len(x.L) < 2 {
		w.write(x)
		return
	}
	w.out.WriteString("(")
	w.write(x)
	w.out.WriteString(")")
}

// names are words as they came, each once.
type names struct {
	list []string
	held map[string]struct{}
}

func (l *names) add(name string) {
	if _, is := l.held[name]; is {
		return
	}
	l.held[name] = struct{}{}
	l.list = append(l.list, strings.Clone(name))
}

// words shows each word of x, from left to right.
func words(x api.Expr, show func(string)) {
	if !formed(x) {
		return
	}
	if x.Kind == api.EName {
		show(x.Name)
	}
	for _, y := range x.L {
		words(y, show)
	}
}
