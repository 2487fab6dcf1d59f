package hier

import (
	"slices"

	"squinch/api"
	"squinch/class"
)

// New returns the table of classes, or the index of a class with an error.
func New(l []api.Class) (*Table, int, api.Errno) {
	t := start()
	first := len(t.classes)
	for _, step := range []func(api.Class) api.Errno{class.Check, t.enter, t.link} {
		for i, c := range l {
			if e := step(c); e != api.OK {
				return nil, i, e
			}
		}
	}
	all := t.inOrder()
	if i := slices.Index(looped(all), true); i >= 0 {
		return nil, i - first, api.ErrHierLoop
	}
	for _, c := range parentsFirst(all) {
		if e := t.check(c); e != api.OK {
			return nil, c.at - first, e
		}
	}
	return t, 0, api.OK
}

// start returns the table of the predefined classes. They have no errors, but that Object has no Super.
func start() *Table {
	t := &Table{classes: map[string]*entry{}}
	for _, c := range Given() {
		t.enter(c)
		t.link(c)
	}
	return t
}

func (t *Table) enter(c api.Class) api.Errno {
	if t.classes[c.Name] != nil {
		return api.ErrHierName
	}
	c = copyClass(c)
	t.classes[c.Name] = &entry{at: len(t.classes), class: c}
	return api.OK
}

// link finds the classes that an entered class names.
func (t *Table) link(c api.Class) api.Errno {
	own, super := t.classes[c.Name], t.classes[c.Super]
	if super == nil || super.class.Interface || super.class.Final {
		return api.ErrHierSuper
	}
	own.super = super
	for _, name := range c.Like {
		like := t.classes[name]
		if like == nil || !like.class.Interface {
			return api.ErrHierLike
		}
		own.likes = append(own.likes, like)
	}
	return api.OK
}

// parentsFirst returns classes in the order in which they are visited if the parents of each are visited before it.
func parentsFirst(l []*entry) []*entry {
	var order []*entry
	visited := make([]bool, len(l))
	var visit func(c *entry) bool
	visit = func(c *entry) bool {
		if !visited[c.at] {
			visited[c.at] = true
			c.parents(visit)
			order = append(order, c)
		}
		return false
	}
	for _, c := range l {
		visit(c)
	}
	return order
}

// check returns the error of a class whose parents have none.
func (t *Table) check(c *entry) api.Errno {
	switch {
	case slices.ContainsFunc(c.class.Fields, func(f api.Field) bool { return c.super.hasField(f.Name) }):
		return api.ErrHierField
	case !t.declaresAll(c.class):
		return api.ErrHierKind
	case c.differs():
		return api.ErrHierOver
	case c.lacks():
		return api.ErrHierLacks
	}
	return api.OK
}

// declaresAll reports whether the kinds that the members of a class name exist.
func (t *Table) declaresAll(c api.Class) bool {
	missing := func(s string) bool { return !t.declares(s) }
	return !slices.ContainsFunc(c.Fields, func(f api.Field) bool { return missing(f.Kind) }) &&
		!slices.ContainsFunc(c.Methods, func(m api.Method) bool {
			return slices.ContainsFunc(m.Params, missing) || m.Result != "" && missing(m.Result)
		})
}

// differs reports whether a class has two methods with one name and different signatures. All methods that its Super has for a name have one signature already, so that it is enough to compare what the class adds with one of them.
func (c *entry) differs() bool {
	known := map[string]api.Method{}
	return c.added(func(d *entry) bool {
		return slices.ContainsFunc(d.class.Methods, func(m api.Method) bool {
			if _, ok := known[m.Name]; !ok {
				known[m.Name] = c.inherited(m)
			}
			return class.Sign(m) != class.Sign(known[m.Name])
		})
	})
}

// inherited returns the method that the Super has for the name of a method, or that method itself.
func (c *entry) inherited(m api.Method) api.Method {
	if _, other := c.super.method(m.Name); other != nil {
		return *other
	}
	return m
}

// lacks reports whether a class that is not Abstract has an abstract method. It goes up as far as there are Abstract classes: the next one lacks nothing, nor does what it has become abstract but by these.
func (c *entry) lacks() bool {
	if c.class.Abstract {
		return false
	}
	abstract := func(d *entry) bool {
		return slices.ContainsFunc(d.class.Methods, func(m api.Method) bool {
			_, own := c.method(m.Name)
			return own.Abstract
		})
	}
	found := c.added(abstract)
	for d := c.super; !found && d != nil && d.class.Abstract; d = d.super {
		found = d.added(abstract)
	}
	return found
}
