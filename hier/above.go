package hier

import (
	"slices"
	"strings"

	"squinch/api"
)

// entry is a class of a table. A nil entry stands for a class that does not exist, and has nothing.
type entry struct {
	at    int // its index in the order of Names
	class api.Class
	super *entry // nil for Object alone
	likes []*entry
}

// The following functions pass classes to the closure found until it returns true, and report whether it did.

// parents passes the Super, then the elements of Like.
func (c *entry) parents(found func(*entry) bool) bool {
	return c.super != nil && found(c.super) || slices.ContainsFunc(c.likes, found)
}

// line passes a class and those from which it is derived, from the nearest one on.
func (c *entry) line(found func(*entry) bool) bool {
	for ; c != nil; c = c.super {
		if found(c) {
			return true
		}
	}
	return false
}

// above passes everything of which a class is a subkind, in the order in which its methods are searched for.
func (c *entry) above(found func(*entry) bool) bool {
	met := map[int]int{}
	return c.line(found) || c.line(func(d *entry) bool { return d.interfaces(met, found) })
}

// added passes a class and the interfaces of which it is a subkind, whatever its Super is.
func (c *entry) added(found func(*entry) bool) bool {
	return found(c) || c.interfaces(map[int]int{}, found)
}

// interfaces passes those in Like, each followed by those in its own Like. Those that were met are left out, as there may be very many ways to one interface.
func (c *entry) interfaces(met map[int]int, found func(*entry) bool) bool {
	return slices.ContainsFunc(c.likes, func(d *entry) bool {
		if met[d.at] > 0 {
			return false
		}
		met[d.at]++
		return found(d) || d.interfaces(met, found)
	})
}

func (c *entry) fields() []api.Field {
	if c == nil {
		return nil
	}
	return append(c.super.fields(), c.class.Fields...)
}

func (c *entry) hasField(name string) bool {
	return c.line(func(d *entry) bool {
		return slices.ContainsFunc(d.class.Fields, func(f api.Field) bool { return f.Name == name })
	})
}

// method returns the method that a class has for a name (nil if there is none) and the class to which it belongs.
func (c *entry) method(name string) (owner *entry, m *api.Method) {
	c.above(func(d *entry) bool {
		owner, m = d, d.ownMethod(name)
		return m != nil
	})
	return owner, m
}

func (c *entry) ownMethod(name string) *api.Method {
	for i := range c.class.Methods {
		if c.class.Methods[i].Name == name {
			return &c.class.Methods[i]
		}
	}
	return nil
}

func (c *entry) print(b *strings.Builder) {
	if c == nil || c.super == nil {
		return
	}
	b.WriteString(c.class.Name + "(")
	c.super.print(b)
	b.WriteString(")")
	for _, f := range c.class.Fields {
		if !f.Transient {
			b.WriteString(" " + f.Name + ":" + f.Kind)
		}
	}
	b.WriteString(".")
}
