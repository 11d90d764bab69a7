package txn

import (
	"slices"
	"strconv"

	"letterpress/api"
	"letterpress/store"
)

// try is one try of a job: what was read of the store, as it was at one stamp.
type try struct {
	job
	way
	at    int
	looks []look // all of them, as far as what was read tells
	past  int    // how many of them were read

	names []string // those of the part that the request is about
	text  string   // that of the fragment that it names
	is    bool     // whether there is such a text
	frags []api.Frag
	syms  []api.Sym
}

// look is a key that a try reads, and what takes in its value.
type look struct {
	head, name string
	take       func(name, value string, is bool)
}

func (l look) key() string { return l.head + l.name }

func newTry(j job) *try {
	x := &try{job: j, way: wayOf(j.r.Kind), at: j.store.Pin()}
	x.start(x)
	return x
}

func (x *try) hasAll() bool { return x.past == len(x.looks) }

func (x *try) read() {
	l := x.looks[x.past]
	x.past++
	value, is := x.store.Read(l.key(), x.at)
	l.take(l.name, value, is)
}

// end is what the request would be answered, and what it would write.
func (x *try) end() (api.Response, []store.Write) { return x.finish(x) }

// isStale: whether what was read is another one by now.
func (x *try) isStale() bool { return slices.ContainsFunc(x.looks, x.changed) }

func (x *try) changed(l look) bool { return x.store.Changed(l.key(), x.at) }

// The lists and things that requests of a kind begin with:

func (x *try) lookNames() { x.look(x.part.list, "", x.takeNames) }

func (x *try) lookNamesThenText() { x.look(x.part.list, "", x.takeNamesForText) }

func (x *try) lookText() { x.look(x.part.thing, x.r.Name, x.takeText) }

func (x *try) lookAll() {
	x.look(frags().list, "", x.takeAllFrags)
	x.look(syms().list, "", x.takeAllSyms)
}

func (x *try) look(head, name string, take func(name, value string, is bool)) {
	x.looks = append(x.looks, look{head, name, take})
}

// What takes in what was read, and looks for what it leads to:

func (x *try) takeNames(_, value string, _ bool) { x.names = Parts(value) }

func (x *try) takeNamesForText(_, value string, is bool) {
	x.takeNames("", value, is)
	if x.isNamed() {
		x.lookText()
	}
}

func (x *try) takeText(_, value string, is bool) { x.text, x.is = value, is }

func (x *try) takeAllFrags(_, value string, _ bool) {
	for _, name := range Parts(value) {
		x.look(frags().thing, name, x.takeFrag)
	}
}

func (x *try) takeAllSyms(_, value string, _ bool) {
	for _, name := range Parts(value) {
		x.look(syms().thing, name, x.takeSym)
	}
}

func (x *try) takeFrag(name, value string, _ bool) {
	x.frags = append(x.frags, api.Frag{Name: name, Text: value})
}

func (x *try) takeSym(name, value string, _ bool) {
	n, e := strconv.Atoi(value)
	if e != nil {
		n = 0
	}
	x.syms = append(x.syms, api.Sym{Name: name, Value: n})
}

// isNamed: whether the request's name is one of those that were read.
func (x *try) isNamed() bool { return slices.Contains(x.names, x.r.Name) }
