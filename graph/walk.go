package graph

import (
	"squinch/api"
	"squinch/heap"
	"squinch/kind"
)

// transients returns what tells the slots that are not sent from those that are, for objects of a kind.
func transients(h *heap.Heap, of string) func(at int) bool {
	if !kind.Class(of) {
		return func(int) bool { return false }
	}
	fields := h.Table().Fields(of)
	return func(at int) bool { return fields[at].Transient }
}

// references passes the objects to which the sent slots of an object refer, in order, to the closure found: one more than once if several slots refer to it.
func references(h *heap.Heap, ref int, found func(to int)) {
	for _, at := range Sent(h, ref) {
		if v, _ := h.Get(ref, int64(at)); v.Sort == api.Ref {
			found(v.Ref)
		}
	}
}

// walk passes the objects that are reachable from a value, in order, to the closure found.
func walk(h *heap.Heap, v api.Value, found func(ref int)) {
	var order []int
	met := map[int]int{}
	meet := func(ref int) {
		if met[ref] == 0 {
			met[ref]++
			order = append(order, ref)
		}
	}
	if v.Sort == api.Ref && h.Kind(v.Ref) != "" {
		meet(v.Ref)
	}
	for n := 0; n < len(order); n++ {
		found(order[n])
		references(h, order[n], meet)
	}
}
