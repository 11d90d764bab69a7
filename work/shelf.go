package work

import (
	"cmp"
	"slices"
	"strings"

	"letterpress/api"
)

// shelf holds what has names, rising by them.
type shelf[T any] struct{ list []thing[T] }

type thing[T any] struct {
	name  string
	value T
}

// against holds a thing's name against another one, for a search.
func (x thing[T]) against(name string) int { return cmp.Compare(x.name, name) }

// place is where name stands, or, if it does not, where it would.
func (s *shelf[T]) place(name string) (int, bool) {
	return slices.BinarySearchFunc(s.list, name, thing[T].against)
}

func (s *shelf[T]) get(name string) (value T, is bool) {
	i, is := s.place(name)
	if !is {
		return value, false
	}
	return s.list[i].value, true
}

// put refuses a new name where there are most already.
func (s *shelf[T]) put(name string, value T, most int) api.Errno {
	i, is := s.place(name)
	if is {
		s.list[i].value = value
		return api.OK
	}
	if len(s.list) >= most {
		return api.Limit
	}
	s.list = slices.Insert(s.list, i, thing[T]{strings.Clone(name), value})
	return api.OK
}

func (s *shelf[T]) drop(name string) api.Errno {
	i, is := s.place(name)
	if !is {
		return api.Missing
	}
	s.list = slices.Delete(s.list, i, i+1)
	return api.OK
}
