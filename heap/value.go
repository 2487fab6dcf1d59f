package heap

import (
	"unicode/utf8"

	"squinch/api"
)

// Of returns the kind of a value, or the empty string if it is not valid.
func (h *Heap) Of(v api.Value) string {
	// A value is compared as a whole with one that has nothing but what its sort needs.
	switch {
	case v == api.Value{}:
		return "null"
	case v == api.Value{Sort: api.Int, N: v.N}:
		return "int"
	case v == api.Value{Sort: api.Bool, N: v.N & 1}:
		return "bool"
	case v == api.Value{Sort: api.Text, S: v.S} && len(v.S) <= api.MaxText && utf8.ValidString(v.S):
		return "text"
	case v == api.Value{Sort: api.Ref, Ref: v.Ref}:
		return h.Kind(v.Ref)
	}
	return ""
}

// Fits reports whether a value fits a kind.
func (h *Heap) Fits(v api.Value, kind string) bool { return h.table.Sub(h.Of(v), kind) }

// Zero returns the initial value of a kind.
func Zero(kind string) api.Value {
	switch kind {
	case "int":
		return api.Value{Sort: api.Int}
	case "bool":
		return api.Value{Sort: api.Bool}
	case "text":
		return api.Value{Sort: api.Text}
	}
	return api.Value{}
}
