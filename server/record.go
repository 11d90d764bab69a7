package server

import (
	"slices"
	"strings"

	"letterpress/api"
)

// copied is the same in new memory.
func (x Record) copied() Record {
	x.Q.Name, x.Q.Text = strings.Clone(x.Q.Name), strings.Clone(x.Q.Text)
	x.R.Text = strings.Clone(x.R.Text)
	x.R.Image = slices.Clone(x.R.Image)
	x.R.Diags = each(x.R.Diags, copiedDiag)
	return x
}

func copiedDiag(x api.Diag) api.Diag {
	x.Frag = strings.Clone(x.Frag)
	return x
}

// each is what f tells of each of l.
func each[A, B any](l []A, f func(A) B) []B {
	var out []B
	for _, x := range l {
		out = append(out, f(x))
	}
	return out
}
