package txn

import (
	"strings"

	"letterpress/api"
)

// part is one of the two that a program has, fragments and symbols: under which key the store has its names, with what ahead of a name each thing, and how many there may be.
type part struct {
	list, thing string
	most        int
}

func frags() part { return part{"d", "f", api.MaxFrags} }

func syms() part { return part{"e", "s", api.MaxSyms} }

func (p part) key(name string) string { return p.thing + name }

func Join(l []string) string {
	var b strings.Builder
	for _, s := range l {
		b.WriteString(s)
		b.WriteByte('\n')
	}
	return b.String()
}

func Parts(s string) []string {
	var l []string
	for {
		part, behind, is := strings.Cut(s, "\n")
		if !is {
			return l
		}
		l = append(l, strings.Clone(part))
		s = behind
	}
}
