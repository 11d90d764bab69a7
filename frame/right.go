package frame

import (
	"slices"

	"letterpress/api"
	"letterpress/work"
)

const (
	mostErrno = 255
	mostDiags = 5000
	mostLine  = 5000
)

// right tells whether r is within the bounds that a response in a frame has.
func right(r api.Response) bool {
	return rightErrno(r.E) && len(r.Text) <= api.MaxText && len(r.Image) <= api.MaxImage && len(r.Diags) <= mostDiags && !slices.ContainsFunc(r.Diags, wrongDiag)
}

func rightErrno(e api.Errno) bool { return e >= 0 && e <= mostErrno }

func wrongDiag(x api.Diag) bool {
	return !rightFrag(x.Frag) || x.Line < 0 || x.Line > mostLine || !rightErrno(x.E)
}

// rightFrag asks work: a word is what a fragment that is asked for may be named.
func rightFrag(name string) bool {
	return name == "" || work.Right(api.Request{Kind: api.RShow, Name: name})
}
