package txn

import (
	"slices"
	"strconv"

	"letterpress/api"
	"letterpress/store"
)

// way is how requests of a kind are tried: which part of the program they are about, which reads a try starts with, and what it comes to.
type way struct {
	part   part
	start  func(*try)
	finish func(*try) (api.Response, []store.Write)
}

// wayOf is that of one of the seven kinds.
func wayOf(kind int) way {
	switch kind {
	case api.RPut:
		return way{frags(), (*try).lookNames, (*try).put}
	case api.RDel:
		return way{frags(), (*try).lookNames, (*try).drop}
	case api.RAppend:
		return way{frags(), (*try).lookNamesThenText, (*try).more}
	case api.RShow:
		return way{frags(), (*try).lookText, (*try).show}
	case api.RDefine:
		return way{syms(), (*try).lookNames, (*try).put}
	case api.RUndef:
		return way{syms(), (*try).lookNames, (*try).drop}
	}
	return way{start: (*try).lookAll, finish: (*try).build}
}

func (x *try) put() (api.Response, []store.Write) {
	w := []store.Write{x.write(x.value())}
	if x.isNamed() {
		return told(api.OK), w
	}
	if len(x.names) >= x.part.most {
		return told(api.Limit), nil
	}
	x.names = append(x.names, x.r.Name)
	slices.Sort(x.names)
	return told(api.OK), append(w, x.writeNames())
}

func (x *try) drop() (api.Response, []store.Write) {
	if !x.isNamed() {
		return told(api.Missing), nil
	}
	x.names = slices.DeleteFunc(x.names, func(name string) bool { return name == x.r.Name })
	return told(api.OK), []store.Write{{Key: x.part.key(x.r.Name), Gone: true}, x.writeNames()}
}

func (x *try) more() (api.Response, []store.Write) {
	if !x.isNamed() {
		return told(api.Missing), nil
	}
	if len(x.text)+len(x.r.Text) > api.MaxText {
		return told(api.Limit), nil
	}
	return told(api.OK), []store.Write{x.write(x.text + x.r.Text)}
}

func (x *try) show() (api.Response, []store.Write) {
	if !x.is {
		return told(api.Missing), nil
	}
	return api.Response{Text: x.text}, nil
}

func (x *try) build() (api.Response, []store.Write) {
	image, diags := x.builder.Build(x.frags, x.syms)
	if len(diags) > 0 {
		return api.Response{E: api.Errors, Diags: diags}, nil
	}
	return api.Response{Image: image}, nil
}

// value is what the store is to hold of the thing that the request puts.
func (x *try) value() string {
	if x.r.Kind == api.RDefine {
		return strconv.Itoa(x.r.Value)
	}
	return x.r.Text
}

func (x *try) write(value string) store.Write {
	return store.Write{Key: x.part.key(x.r.Name), Value: value}
}

func (x *try) writeNames() store.Write {
	return store.Write{Key: x.part.list, Value: Join(x.names)}
}
