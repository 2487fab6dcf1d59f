package hier_test

import (
	"fmt"
	"regexp"
	"slices"
	"strings"

	"squinch/api"
	"squinch/class"
)

// given is the predefined classes, written out.
func given() []api.Class {
	return []api.Class{
		{Name: "Object"},
		{Name: "Fault", Super: "Object", Fields: []api.Field{{Name: "what", Kind: "text"}}},
		{Name: "NullFault", Super: "Fault", Final: true},
		{Name: "IndexFault", Super: "Fault", Final: true},
		{Name: "CastFault", Super: "Fault", Final: true},
		{Name: "ZeroFault", Super: "Fault", Final: true},
		{Name: "RoomFault", Super: "Fault", Final: true},
		{Name: "CallFault", Super: "Fault", Final: true},
	}
}

// model is a hierarchy by a second definition: it goes through all classes for everything, and keeps nothing.
type model []api.Class

func modelOf(l []api.Class) model { return slices.Concat(given(), l) }

func (m model) names() []string {
	var l []string
	for _, c := range m {
		l = append(l, c.Name)
	}
	return l
}

func (m model) get(name string) (api.Class, bool) {
	for _, c := range m {
		if c.Name == name {
			return c, true
		}
	}
	return api.Class{}, false
}

func (m model) parents(name string) []string {
	c, _ := m.get(name)
	l := slices.Clone(c.Like)
	if c.Super != "" {
		l = append([]string{c.Super}, l...)
	}
	return l
}

// ups returns what is reached from a class by one or more steps, in no order that means anything.
func (m model) ups(name string) []string {
	l := m.parents(name)
	for grown := true; grown; {
		grown = false
		for _, s := range l {
			for _, p := range m.parents(s) {
				if !slices.Contains(l, p) {
					l, grown = append(l, p), true
				}
			}
		}
	}
	return l
}

// line returns a class and those from which it is derived.
func (m model) line(name string) []api.Class {
	var l []api.Class
	for c, ok := m.get(name); ok; c, ok = m.get(c.Super) {
		l = append(l, c)
	}
	return l
}

var kindForm = regexp.MustCompile(`^([A-Za-z0-9]+)((?:\[\]){0,3})$`)

func (m model) kind(s string) bool {
	p := kindForm.FindStringSubmatch(s)
	if p == nil {
		return false
	}
	_, isClass := m.get(p[1])
	return isClass || p[1] == "int" || p[1] == "bool" || p[1] == "text" || s == "null"
}

func plain(s string) bool { return s == "int" || s == "bool" || s == "text" }

func (m model) sub(a, b string) bool {
	if !m.kind(a) || !m.kind(b) {
		return false
	}
	return a == b || a == "null" && !plain(b) || strings.HasSuffix(a, "[]") && b == "Object" || slices.Contains(m.ups(a), b)
}

func (m model) join(a, b string) string {
	if m.sub(a, b) {
		return b
	}
	if m.sub(b, a) {
		return a
	}
	if !m.kind(a) || !m.kind(b) || plain(a) || plain(b) {
		return ""
	}
	if strings.HasSuffix(a, "[]") {
		return "Object"
	}
	for _, c := range m.line(a)[1:] {
		if m.sub(b, c.Name) {
			return c.Name
		}
	}
	return ""
}

func (m model) fields(name string) []api.Field {
	var l []api.Field
	for _, c := range m.line(name) {
		l = slices.Concat(c.Fields, l)
	}
	return l
}

func (m model) place(name, field string) int {
	for i, f := range m.fields(name) {
		if f.Name == field {
			return i
		}
	}
	return -1
}

// flat returns the interfaces of a list, each followed by those in its own Like, as often as they come.
func (m model) flat(names []string) []api.Class {
	var l []api.Class
	for _, s := range names {
		c, _ := m.get(s)
		l = append(append(l, c), m.flat(c.Like)...)
	}
	return l
}

func (m model) method(name, method string) (string, api.Method, bool) {
	l := m.line(name)
	for _, c := range m.line(name) {
		l = append(l, m.flat(c.Like)...)
	}
	for _, c := range l {
		for _, x := range c.Methods {
			if x.Name == method {
				return c.Name, x, true
			}
		}
	}
	return "", api.Method{}, false
}

func (m model) print(name string) string {
	if _, ok := m.get(name); !ok || name == "Object" {
		return ""
	}
	c, _ := m.get(name)
	s := fmt.Sprintf("%s(%s)", c.Name, m.print(c.Super))
	for _, f := range c.Fields {
		if !f.Transient {
			s += fmt.Sprintf(" %s:%s", f.Name, f.Kind)
		}
	}
	return s + "."
}

func sign(m api.Method) string { return "(" + strings.Join(m.Params, ",") + ")" + m.Result }

// methods returns the methods of a class and of everything of which it is a subkind.
func (m model) methods(name string) []api.Method {
	var l []api.Method
	for _, s := range append(m.ups(name), name) {
		c, _ := m.get(s)
		l = append(l, c.Methods...)
	}
	return l
}

// order returns the names of classes as they are visited in step 5.
func (m model) order(names []string, visited []string) []string {
	for _, s := range names {
		if !slices.Contains(visited, s) {
			visited = append(m.order(m.parents(s), visited), s)
		}
	}
	return visited
}

// last returns the error of a class in step 5.
func (m model) last(c api.Class) api.Errno {
	for _, f := range c.Fields {
		for _, g := range m.fields(c.Super) {
			if f.Name == g.Name {
				return api.ErrHierField
			}
		}
	}
	var kinds []string
	for _, f := range c.Fields {
		kinds = append(kinds, f.Kind)
	}
	for _, x := range c.Methods {
		kinds = append(kinds, x.Params...)
		if x.Result != "" {
			kinds = append(kinds, x.Result)
		}
	}
	for _, s := range kinds {
		if !m.kind(s) || s == "null" {
			return api.ErrHierKind
		}
	}
	all := m.methods(c.Name)
	for _, x := range all {
		for _, y := range all {
			if x.Name == y.Name && sign(x) != sign(y) {
				return api.ErrHierOver
			}
		}
	}
	for _, x := range all {
		if _, y, _ := m.method(c.Name, x.Name); y.Abstract && !c.Abstract {
			return api.ErrHierLacks
		}
	}
	return api.OK
}

// single returns the error of a class in step 3.
func (m model) single(c api.Class) api.Errno {
	if s, ok := m.get(c.Super); !ok || s.Interface || s.Final {
		return api.ErrHierSuper
	}
	for _, name := range c.Like {
		if s, ok := m.get(name); !ok || !s.Interface {
			return api.ErrHierLike
		}
	}
	return api.OK
}

// wanted returns the index and the error that New should return.
func wanted(l []api.Class) (int, api.Errno) {
	m := modelOf(l)
	steps := []func(i int, c api.Class) api.Errno{
		func(i int, c api.Class) api.Errno { return class.Check(c) },
		func(i int, c api.Class) api.Errno {
			if slices.Contains(m[:i+8].names(), c.Name) {
				return api.ErrHierName
			}
			return api.OK
		},
		func(i int, c api.Class) api.Errno { return m.single(c) },
		func(i int, c api.Class) api.Errno {
			if slices.Contains(m.ups(c.Name), c.Name) {
				return api.ErrHierLoop
			}
			return api.OK
		},
	}
	for _, step := range steps {
		for i, c := range l {
			if e := step(i, c); e != api.OK {
				return i, e
			}
		}
	}
	for _, name := range m.order(m[8:].names(), nil) {
		c, _ := m.get(name)
		if e := m.last(c); e != api.OK {
			return slices.Index(m.names(), name) - 8, e
		}
	}
	return 0, api.OK
}
