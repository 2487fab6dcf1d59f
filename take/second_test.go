package take_test

import (
	"encoding/binary"
	"slices"
	"strings"
	"unicode/utf8"

	"squinch/api"
	"squinch/heap"
	"squinch/hier"
)

// second is a second definition of what is accepted, word by word, in any time that it takes. It takes only the classes and the subkinds from the table, and of the heap its number of objects and its room.
type second struct {
	table *hier.Table
	old   []api.Cell
	room  int
	data  []byte
	at    int // what was read so far
	begin int // where the current item begins
	kinds []string
	cells []api.Cell
}

// failure ends a reading at an item with an error.
type failure struct {
	at int
	e  api.Errno
}

// secondSome returns the new objects, the values, the offset of an error, and the error.
func secondSome(h *heap.Heap, b []byte, l api.Limits) (cells []api.Cell, values []api.Value, at int, e api.Errno) {
	defer func() {
		if f, ok := recover().(failure); ok {
			cells, values, at, e = nil, nil, f.at, f.e
		}
	}()
	s := &second{table: h.Table(), old: h.Cells(), room: h.Left(), data: b}
	s.check(len(b) <= l.Bytes, api.ErrTakeMany)
	for range s.count(256, api.ErrTakeForm) {
		s.kind()
	}
	for range s.count(uint64(max(l.Objects, 0)), api.ErrTakeMany) {
		s.object()
	}
	for _, c := range s.cells {
		for at, slot := range s.slots(c.Kind, len(c.Values)) {
			if slot == "" {
				continue
			}
			v := s.value()
			s.check(s.table.Sub(s.kindOf(v), slot), api.ErrTakeValue)
			c.Values[at] = v
		}
	}
	for range s.count(64, api.ErrTakeForm) {
		values = append(values, s.value())
	}
	s.begin = s.at
	s.check(s.at == len(s.data), api.ErrTakeForm)
	return s.cells, values, 0, api.OK
}

func (s *second) check(right bool, e api.Errno) {
	if !right {
		panic(failure{s.begin, e})
	}
}

func (s *second) number() uint64 {
	v, n := binary.Uvarint(s.data[s.at:])
	s.check(n > 0 && n == len(varint(v)), api.ErrTakeForm)
	s.at += n
	return v
}

func (s *second) text() string {
	n := s.number()
	s.check(n <= 4096 && n <= uint64(len(s.data)-s.at), api.ErrTakeForm)
	x := string(s.data[s.at:][:n])
	s.check(utf8.ValidString(x), api.ErrTakeForm)
	s.at += len(x)
	return x
}

func (s *second) count(most uint64, e api.Errno) uint64 {
	s.begin = s.at
	n := s.number()
	s.check(n <= most, e)
	return n
}

func (s *second) kind() {
	s.begin = s.at
	of, print := s.text(), s.text()
	s.check(!slices.Contains(s.kinds, of), api.ErrTakeKind)
	if strings.HasSuffix(of, "[]") {
		s.check(s.table.Kind(of) && print == "", api.ErrTakeKind)
	} else {
		c, ok := s.table.Get(of)
		s.check(ok && !c.Abstract && print == layout(s.table, of), api.ErrTakeKind)
	}
	s.kinds = append(s.kinds, of)
}

func layout(t *hier.Table, name string) string {
	c, ok := t.Get(name)
	if !ok || name == "Object" {
		return ""
	}
	parts := []string{name, "(", layout(t, c.Super), ")"}
	for _, f := range c.Fields {
		if !f.Transient {
			parts = append(parts, " ", f.Name, ":", f.Kind)
		}
	}
	return strings.Join(append(parts, "."), "")
}

// fields returns all fields of a class.
func fields(t *hier.Table, name string) []api.Field {
	var all []api.Field
	for c, ok := t.Get(name); ok; c, ok = t.Get(c.Super) {
		all = append(c.Fields, all...)
	}
	return all
}

// slots returns the kind of each slot of an object that is sent, and the empty string for the others.
func (s *second) slots(of string, size int) []string {
	if elem, isArray := strings.CutSuffix(of, "[]"); isArray {
		return slices.Repeat([]string{elem}, size)
	}
	var l []string
	for _, f := range fields(s.table, of) {
		if f.Transient {
			f.Kind = ""
		}
		l = append(l, f.Kind)
	}
	return l
}

func (s *second) object() {
	s.begin = s.at
	index := s.number()
	s.check(index < uint64(len(s.kinds)), api.ErrTakeForm)
	of := s.kinds[index]
	var kinds []string
	if elem, isArray := strings.CutSuffix(of, "[]"); isArray {
		n := s.number()
		s.check(n < uint64(s.room), api.ErrTakeRoom)
		kinds = slices.Repeat([]string{elem}, int(n))
	} else {
		for _, f := range fields(s.table, of) {
			kinds = append(kinds, f.Kind)
		}
	}
	s.check(1+len(kinds) <= s.room, api.ErrTakeRoom)
	s.room -= 1 + len(kinds)
	c := api.Cell{Kind: of}
	for _, k := range kinds {
		sorts := map[string]int{"int": api.Int, "bool": api.Bool, "text": api.Text}
		c.Values = append(c.Values, api.Value{Sort: sorts[k]})
	}
	s.cells = append(s.cells, c)
}

func (s *second) value() api.Value {
	s.begin = s.at
	v := api.Value{}
	sort := s.number()
	s.check(sort <= api.Ref, api.ErrTakeForm)
	v.Sort = int(sort)
	switch v.Sort {
	case api.Int:
		n := s.number()
		v.N = int64(n / 2)
		if n%2 == 1 {
			v.N = -v.N - 1
		}
	case api.Bool:
		v.N = int64(s.number())
		s.check(v.N == 0 || v.N == 1, api.ErrTakeForm)
	case api.Text:
		v.S = s.text()
	case api.Ref:
		n := s.number()
		s.check(n < uint64(len(s.cells)), api.ErrTakeForm)
		v.Ref = len(s.old) + int(n)
	}
	return v
}

func (s *second) kindOf(v api.Value) string {
	if v.Sort == api.Ref {
		return s.cells[v.Ref-len(s.old)].Kind
	}
	return []string{"null", "int", "bool", "text"}[v.Sort]
}
