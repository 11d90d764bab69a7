package expr

import "letterpress/api"

// The bounds that P302 names.
const (
	most      = 1 << 40
	mostHere  = 1 << 20
	mostShift = 40
)

// scope is what an expression is reckoned by.
type scope struct {
	here int
	syms []api.Sym
}

func (s scope) value(x api.Expr) (amount, api.Errno) {
	if !formed(x) {
		return 0, api.Range
	}
	switch x.Kind {
	case api.ENum:
		return amount(x.N).bounded()
	case api.EName:
		return s.named(x.Name)
	case api.EHere:
		return s.place()
	}
	a, e := s.value(x.L[0])
	if e != api.OK {
		return 0, e
	}
	if x.Kind == api.ENeg {
		return amount(0).minus(a)
	}
	b, e := s.value(x.L[1])
	if e != api.OK {
		return 0, e
	}
	return a.way(x.Kind)(b)
}

func (s scope) named(name string) (amount, api.Errno) {
	for _, y := range s.syms {
		if y.Name == name {
			return amount(y.Value).bounded()
		}
	}
	return 0, api.Name
}

func (s scope) place() (amount, api.Errno) {
	if s.here < 0 || s.here > mostHere {
		return 0, api.Range
	}
	return amount(s.here), api.OK
}

// amount is what an expression comes to. Those that its ways take are bounded, so that of them only a product can wrap round.
type amount int

func (a amount) bounded() (amount, api.Errno) {
	if a < -most || a > most {
		return 0, api.Range
	}
	return a, api.OK
}

// way is what is done to a by an expression of that kind, of two.
func (a amount) way(kind int) func(amount) (amount, api.Errno) {
	switch kind {
	case api.EAdd:
		return a.plus
	case api.ESub:
		return a.minus
	case api.EMul:
		return a.times
	case api.EAnd:
		return a.and
	case api.EOr:
		return a.or
	case api.EShl:
		return a.left
	}
	return a.right
}

func (a amount) plus(b amount) (amount, api.Errno) { return (a + b).bounded() }

func (a amount) minus(b amount) (amount, api.Errno) { return (a - b).bounded() }

func (a amount) times(b amount) (amount, api.Errno) {
	// A product that has wrapped round, even to one within the bounds, does not give a back.
	if b != 0 && a*b/b != a {
		return 0, api.Range
	}
	return (a * b).bounded()
}

func (a amount) and(b amount) (amount, api.Errno) { return (a & b).bounded() }

func (a amount) or(b amount) (amount, api.Errno) { return (a | b).bounded() }

func (a amount) left(b amount) (amount, api.Errno) {
	if !b.shifts() {
		return 0, api.Range
	}
	return a.times(1 << b)
}

func (a amount) right(b amount) (amount, api.Errno) {
	if !b.shifts() {
		return 0, api.Range
	}
	return a >> b, api.OK
}

// shifts: whether a shift by b may be.
func (b amount) shifts() bool { return 0 <= b && b <= mostShift }
