package frame

import "letterpress/api"

// way is one of the two ways through a form: the writer's, which tells on what it is given, or the reader's, which tells what stands there. Since both go through one form, what was written is read.
type way struct {
	number func(size, n int) int           // a number of so many bytes
	count  func(size, n int) int           // the same, of how many things follow, each of them of one byte or more
	text   func(size int, s string) string // how many bytes it has, by a number of so many bytes, and these
}

type request api.Request

func (r *request) form(w way) {
	r.Kind = w.number(1, r.Kind)
	r.Name = w.text(1, r.Name)
	switch r.Kind {
	case api.RPut, api.RAppend:
		r.Text = w.text(2, r.Text)
	case api.RDefine:
		r.Value = w.number(8, r.Value)
	}
}

type response api.Response

func (r *response) form(w way) {
	r.E = w.errno(r.E)
	r.Text = w.text(2, r.Text)
	r.Image = []byte(w.text(2, string(r.Image)))
	// A list of its own, as the one that is there may be the caller's.
	l := make([]api.Diag, w.count(2, len(r.Diags)))
	copy(l, r.Diags)
	for i, x := range l {
		l[i] = w.diag(x)
	}
	r.Diags = l
}

func (w way) diag(x api.Diag) api.Diag {
	x.Frag = w.text(1, x.Frag)
	x.Line = w.number(2, x.Line)
	x.E = w.errno(x.E)
	return x
}

func (w way) errno(e api.Errno) api.Errno { return api.Errno(w.number(1, int(e))) }
