package frame

// writer puts what it is given behind what it has.
type writer struct{ b []byte }

// framed is what that form writes, with its head.
func framed(head int, form func(way)) []byte {
	w := &writer{b: make([]byte, head)}
	form(w.way())
	// The head has room for its number and for nothing else, so that what is behind it stays as it is.
	ahead := &writer{b: w.b[:0:head]}
	ahead.number(head, len(w.b)-head)
	return w.b
}

func (w *writer) way() way { return way{w.number, w.number, w.text} }

// number is by two's complement, if it is below 0.
func (w *writer) number(size, n int) int {
	for i := size - 1; i >= 0; i-- {
		w.b = append(w.b, byte(n>>(8*i)))
	}
	return n
}

func (w *writer) text(size int, s string) string {
	w.number(size, len(s))
	w.b = append(w.b, s...)
	return s
}
