package line

import (
	"strconv"
	"strings"

	"letterpress/api"
	"letterpress/expr"
)

const (
	lastRegister = 31
	noRegister   = -1
	mostQuoted   = 60
)

// What may stand around the parts of a line.
const gap = " \t"

// reader takes a line off the front of rest, into x.
type reader struct {
	rest string
	x    api.Stmt
}

// read tells what the line of that number says; nothing, where it says nothing.
func read(s string, number int) (api.Stmt, bool) {
	code, _, _ := cut(s, '#')
	r := reader{rest: strings.Trim(code, gap)}
	if r.rest == "" {
		return api.Stmt{}, true
	}
	r.x.Line = number
	r.label()
	if r.rest != "" && !r.statement() {
		return api.Stmt{}, false
	}
	return r.x, true
}

// label takes a label, if there is one. What stands ahead of a `:` and is no word is left: it may be a statement with a `:` between its quotes.
func (r *reader) label() {
	name, behind, is := strings.Cut(r.rest, ":")
	if !is || !Word(name) {
		return
	}
	r.x.Label = strings.Clone(name)
	r.rest = strings.TrimLeft(behind, gap)
}

func (r *reader) statement() bool {
	name := r.rest
	if end := strings.IndexAny(name, gap); end >= 0 {
		name = name[:end]
	}
	w, is := find(name)
	if !is {
		return false
	}
	r.x.Kind, r.x.Op = w.kind, w.op
	r.rest = strings.TrimLeft(r.rest[len(name):], gap)
	return r.operands(strings.Fields(w.kinds), w.most)
}

// operands takes them one by one, so that a line of too many is refused without reading on.
func (r *reader) operands(kinds []string, most int) bool {
	if r.rest == "" {
		return len(kinds) == 0
	}
	for i := range most {
		take := r.way(kinds[min(i, len(kinds)-1)])
		piece, behind, more := cut(r.rest, ',')
		r.rest = behind
		if !take(strings.Trim(piece, gap)) {
			return false
		}
		if !more {
			return i+1 >= len(kinds)
		}
	}
	return false
}

// way is what takes an operand of that kind into the statement; what it answers: whether it is one.
func (r *reader) way(kind string) func(string) bool {
	switch kind {
	case "X", "Y", "D", "A", "B":
		return r.register
	case word:
		return r.word
	case quoted:
		return r.quoted
	}
	return r.number
}

func (r *reader) register(s string) bool {
	digits, is := strings.CutPrefix(s, "r")
	n, err := strconv.Atoi(digits)
	if !is || err != nil || n < 0 || n > lastRegister {
		return false
	}
	r.x.Args = append(r.x.Args, api.Arg{Reg: n})
	// A sign or a 0 ahead is lost when it is written anew.
	return strconv.Itoa(n) == digits
}

func (r *reader) number(s string) bool {
	e, is := expr.Parse(s)
	r.x.Args = append(r.x.Args, api.Arg{Reg: noRegister, E: e})
	return is
}

func (r *reader) word(s string) bool {
	if !Word(s) {
		return false
	}
	r.x.Text = strings.Clone(s)
	return true
}

func (r *reader) quoted(s string) bool {
	s, opened := strings.CutPrefix(s, `"`)
	s, closed := strings.CutSuffix(s, `"`)
	if !opened || !closed || len(s) > mostQuoted || strings.ContainsFunc(s, unquotable) {
		return false
	}
	r.x.Text = strings.Clone(s)
	return true
}

// unquotable: whether c may not stand between quotes, nor what bytes of no rune are taken for.
func unquotable(c rune) bool { return c < 32 || c > 126 || c == '"' }

// cut is strings.Cut at the first stop that does not stand between `"`.
func cut(s string, stop byte) (ahead, behind string, is bool) {
	i := 0
outside:
	switch {
	case i == len(s):
		return s, "", false
	case s[i] == stop:
		return s[:i], s[i+1:], true
	case s[i] == '"':
		goto between
	}
	i++
	goto outside
between:
	i++
	switch {
	case i == len(s):
		return s, "", false
	case s[i] == '"':
		i++
		goto outside
	}
	goto between
}
