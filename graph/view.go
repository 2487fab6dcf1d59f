package graph

import (
	"slices"

	"squinch/api"
	"squinch/heap"
)

// view is what is reachable from a value. The order of the reachable objects does not depend on their numbers in the heap, so two values are isomorphic if nothing differs between their views but those numbers.
type view struct {
	heap    *heap.Heap
	objects []int
	places  map[int]int // the index of each object in the order
}

func numbered(h *heap.Heap, v api.Value) view {
	x := view{heap: h, objects: Reach(h, v), places: map[int]int{}}
	for place, ref := range x.objects {
		x.places[ref] = place
	}
	return x
}

// value returns the value in a slot, a reference with the place of the object instead of its number.
func (x view) value(ref, at int) api.Value {
	v, _ := x.heap.Get(ref, int64(at))
	if v.Sort == api.Ref {
		v.Ref = x.places[v.Ref]
	}
	return v
}

func (x view) same(y view) bool {
	return slices.EqualFunc(x.objects, y.objects, func(p, q int) bool {
		return x.heap.Kind(p) == y.heap.Kind(q) && slices.EqualFunc(Sent(x.heap, p), Sent(y.heap, q), func(i, k int) bool {
			return x.value(p, i) == y.value(q, k)
		})
	})
}
