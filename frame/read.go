package frame

// reader takes one thing after the other from what is left. Behind something that is not there whole nothing is left.
type reader struct {
	left  []byte
	short bool // something was not there whole
}

// opened tells how many bytes are to follow the head that b begins with, and what follows it; false: b is shorter than a head.
func opened(b []byte, head int) (n int, rest []byte, is bool) {
	r := &reader{left: b}
	n = r.number(head, 0)
	return n, r.left, !r.short
}

// filled reads b by that form; whether b is what the form asks for, no less and no more.
func filled(b []byte, form func(way)) bool {
	r := &reader{left: b}
	form(r.way())
	return !r.short && len(r.left) == 0
}

func (r *reader) way() way { return way{r.number, r.count, r.text} }

// take is the next n bytes, without those behind them, be it as spare room.
func (r *reader) take(n int) []byte {
	if n > len(r.left) {
		r.left, r.short = nil, true
		return nil
	}
	b := r.left[:n:n]
	r.left = r.left[n:]
	return b
}

func (r *reader) number(size, _ int) int {
	n := 0
	for _, c := range r.take(size) {
		n = n<<8 | int(c)
	}
	return n
}

// count is 0 where there are fewer bytes than things, so that nobody makes room for things that are not there.
func (r *reader) count(size, _ int) int {
	n := r.number(size, 0)
	if n > len(r.left) {
		r.left, r.short = nil, true
		return 0
	}
	return n
}

func (r *reader) text(size int, _ string) string { return string(r.take(r.number(size, 0))) }
