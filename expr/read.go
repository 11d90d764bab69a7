package expr

import (
	"strconv"
	"strings"

	"letterpress/api"
)

// Numbers are below 2^32.
const numberBits = 32

// reader takes an expression off the front of rest; deep is how many `(` and `-` it stands within.
type reader struct {
	rest string
	deep int
}

// What binds least is asked for first: its parts are what binds closer.

func (r *reader) ors() (api.Expr, bool) { return r.row(r.ands, api.EOr) }

func (r *reader) ands() (api.Expr, bool) { return r.row(r.shifts, api.EAnd) }

func (r *reader) shifts() (api.Expr, bool) { return r.row(r.sums, api.EShl, api.EShr) }

func (r *reader) sums() (api.Expr, bool) { return r.row(r.products, api.EAdd, api.ESub) }

func (r *reader) products() (api.Expr, bool) { return r.row(r.single, api.EMul) }

// row takes parts with signs of these kinds between them. A loop, as a row may be as long as a text.
func (r *reader) row(part func() (api.Expr, bool), kinds ...int) (api.Expr, bool) {
	x, is := part()
	for is {
		kind, more := r.between(kinds)
		if !more {
			return x, true
		}
		var y api.Expr
		y, is = part()
		x = api.Expr{Kind: kind, L: []api.Expr{x, y}}
	}
	return api.Expr{}, false
}

func (r *reader) between(kinds []int) (int, bool) {
	for _, kind := range kinds {
		if r.took(sign(kind)) {
			return kind, true
		}
	}
	return 0, false
}

func (r *reader) single() (api.Expr, bool) {
	switch {
	case r.took("-"):
		return r.inside(r.negated)
	case r.took("("):
		return r.inside(r.bracketed)
	case r.took("."):
		return api.Expr{Kind: api.EHere}, true
	}
	return leaf(r.run())
}

// inside refuses what is too deep ahead of reading it, so that no text makes the reader go deeper.
func (r *reader) inside(read func() (api.Expr, bool)) (api.Expr, bool) {
	if r.deep == api.MaxDeep {
		return api.Expr{}, false
	}
	r.deep++
	x, is := read()
	r.deep--
	return x, is
}

func (r *reader) negated() (api.Expr, bool) {
	x, is := r.single()
	if !is {
		return api.Expr{}, false
	}
	return api.Expr{Kind: api.ENeg, L: []api.Expr{x}}, true
}

func (r *reader) bracketed() (api.Expr, bool) {
	x, is := r.ors()
	return x, is && r.took(")")
}

func (r *reader) took(text string) (is bool) {
	r.skip()
	r.rest, is = strings.CutPrefix(r.rest, text)
	return is
}

func (r *reader) ended() bool {
	r.skip()
	return r.rest == ""
}

func (r *reader) skip() { r.rest = strings.TrimLeft(r.rest, " ") }

// run takes all that may stand in a word or a number: two of these never stand side by side. It is written anew, so that an answer does not keep the text.
func (r *reader) run() string {
	var b strings.Builder
	for _, c := range r.rest {
		if !letter(c) && !digit(c) {
			break
		}
		b.WriteRune(c)
	}
	r.rest = r.rest[b.Len():]
	return b.String()
}

func leaf(run string) (api.Expr, bool) {
	if word(run) {
		return api.Expr{Kind: api.EName, Name: run}, true
	}
	n, is := number(run)
	if !is {
		return api.Expr{}, false
	}
	return api.Expr{Kind: api.ENum, N: n}, true
}

// word: whether a run is one (W2).
func word(run string) bool {
	if run == "" || len(run) > api.MaxName || digit(rune(run[0])) {
		return false
	}
	behind, is := strings.CutPrefix(run, "r")
	register := is && behind != "" && strings.TrimLeftFunc(behind, digit) == ""
	return !register
}

func number(run string) (int, bool) {
	base := 10
	digits, is := strings.CutPrefix(run, "0x")
	if is {
		base = 16
	}
	n, err := strconv.ParseUint(digits, base, numberBits)
	if err != nil {
		return 0, false
	}
	return int(n), true
}

func letter(c rune) bool { return 'a' <= c && c <= 'z' || c == '_' }

func digit(c rune) bool { return '0' <= c && c <= '9' }
