package hier

import (
	"slices"
	"strings"

	"squinch/api"
)

// copyClass copies the strings too, since a table must not keep what it was given.
func copyClass(c api.Class) api.Class {
	c.Name, c.Super = strings.Clone(c.Name), strings.Clone(c.Super)
	c.Like = copyList(c.Like, strings.Clone)
	c.Fields = copyList(c.Fields, func(f api.Field) api.Field {
		f.Name, f.Kind = strings.Clone(f.Name), strings.Clone(f.Kind)
		return f
	})
	c.Methods = copyList(c.Methods, copyMethod)
	return c
}

func copyMethod(m api.Method) api.Method {
	m.Name, m.Result = strings.Clone(m.Name), strings.Clone(m.Result)
	m.Params = copyList(m.Params, strings.Clone)
	m.Code = copyList(m.Code, func(i api.Instr) api.Instr {
		i.Op, i.S = strings.Clone(i.Op), strings.Clone(i.S)
		return i
	})
	m.Catches = copyList(m.Catches, func(c api.Catch) api.Catch {
		c.Class = strings.Clone(c.Class)
		return c
	})
	return m
}

func copyList[T any](l []T, one func(T) T) []T {
	l = slices.Clone(l)
	for i, x := range l {
		l[i] = one(x)
	}
	return l
}
