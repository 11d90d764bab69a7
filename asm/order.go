package asm

import "letterpress/api"

// knot is an SEqu, the SEqus that hang on it, and on how many it still waits.
type knot struct {
	s     *statement
	users []*knot
	waits int
}

// order is the SEqus, each behind all those that it hangs on. An SEqu is known only if all its names are, and what it comes to hangs on these alone, so one look at each of them in this order tells what P501's looks over and over do. Those that hang on themselves, or on such ones, are never known, and are not in it.
func (p *program) order() []*statement {
	var free []*knot
	for _, k := range p.knots() {
		if k.waits == 0 {
			free = append(free, k)
		}
	}
	var l []*statement
	for len(free) > 0 {
		k := free[0]
		free = append(free[1:], k.released()...)
		l = append(l, k.s)
	}
	return l
}

// released are those that waited for k as the last one.
func (k *knot) released() []*knot {
	var l []*knot
	for _, u := range k.users {
		u.waits--
		if u.waits == 0 {
			l = append(l, u)
		}
	}
	return l
}

func (p *program) knots() []*knot {
	var l []*knot
	of := map[string]*knot{}
	for _, s := range p.list {
		if s.Kind == api.SEqu {
			k := &knot{s: s}
			l = append(l, k)
			of[s.Text] = k
		}
	}
	for _, k := range l {
		for _, name := range k.s.words[0] {
			if on, is := of[name]; is {
				on.users = append(on.users, k)
				k.waits++
			}
		}
	}
	return l
}
