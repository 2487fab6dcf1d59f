package class

import (
	"strings"

	"squinch/api"
)

// Same reports whether two classes are equal.
func Same(a, b api.Class) bool {
	return a.Name == b.Name && a.Super == b.Super && sameList(a.Like, b.Like, equal) &&
		a.Interface == b.Interface && a.Abstract == b.Abstract && a.Final == b.Final &&
		sameList(a.Fields, b.Fields, equal) && sameList(a.Methods, b.Methods, sameMethod)
}

// Sign returns the signature of a method.
func Sign(m api.Method) string { return "(" + strings.Join(m.Params, ",") + ")" + m.Result }

func sameMethod(a, b api.Method) bool {
	return a.Name == b.Name && sameList(a.Params, b.Params, equal) && a.Result == b.Result &&
		a.Abstract == b.Abstract && a.Locals == b.Locals &&
		sameList(a.Code, b.Code, equal) && sameList(a.Catches, b.Catches, equal)
}

func sameList[T any](a, b []T, same func(x, y T) bool) bool {
	if len(a) != len(b) {
		return false
	}
	for i, x := range a {
		if !same(x, b[i]) {
			return false
		}
	}
	return true
}

func equal[T comparable](x, y T) bool { return x == y }
