package work

import (
	"letterpress/api"
	"letterpress/line"
)

// A value is from -mostValue to mostValue.
const mostValue = 1 << 40

func Right(r api.Request) bool {
	return r.Kind >= api.RPut && r.Kind <= api.RBuild && rightName(r) && rightText(r) && rightValue(r)
}

func rightName(r api.Request) bool {
	if r.Kind == api.RBuild {
		return r.Name == ""
	}
	return line.Word(r.Name)
}

func rightText(r api.Request) bool {
	if r.Kind == api.RPut || r.Kind == api.RAppend {
		return len(r.Text) <= api.MaxText
	}
	return r.Text == ""
}

func rightValue(r api.Request) bool {
	if r.Kind == api.RDefine {
		return r.Value >= -mostValue && r.Value <= mostValue
	}
	return r.Value == 0
}
