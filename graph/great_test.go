package graph_test

import (
	"slices"
	"testing"

	"squinch/api"
	"squinch/graph"
	"squinch/heap"
)

// great returns a heap with the greatest room.
func great(t *testing.T, l ...api.Class) *heap.Heap {
	t.Helper()
	h, e := heap.New(table(t, l...), api.MaxRoom)
	if e != api.OK {
		t.Fatal(e)
	}
	return h
}

// chain returns a heap that is full of objects, each of which refers to the next one.
func chain(t *testing.T) *heap.Heap {
	t.Helper()
	h := great(t, class("L", "next:L"))
	for n := range api.MaxRoom / 2 {
		if _, e := h.Object("L"); e != api.OK {
			t.Fatal(n, e)
		}
		if n > 0 {
			set(t, h, n-1, 0, ref(n))
		}
	}
	return h
}

// P1: chains as long as a heap may have them, of which nothing but the end differs.
func TestLongChains(t *testing.T) {
	h, g := chain(t), chain(t)
	last := h.Len() - 1
	if l := graph.Reach(h, ref(0)); len(l) != h.Len() || !slices.IsSorted(l) || graph.Cycle(h, ref(0)) {
		t.Errorf("%d objects, cycle: %v", len(l), graph.Cycle(h, ref(0)))
	}
	if p := graph.Pairs(h, ref(0), g, ref(0)); len(p) != h.Len() || p[last] != [2]int{last, last} {
		t.Errorf("%d pairs", len(p))
	}
	if graph.Alike(h, ref(0), h, ref(1)) {
		t.Error("a chain is isomorphic to its rest")
	}
	set(t, h, last, 0, ref(0))
	set(t, g, last, 0, ref(1))
	if !graph.Cycle(h, ref(9)) || !graph.Cycle(g, ref(0)) || graph.Alike(h, ref(0), g, ref(0)) {
		t.Error("a ring, and one that is entered")
	}
	if p := graph.Pairs(h, ref(0), h, ref(last)); len(p) != h.Len() || p[0] != [2]int{0, last} || p[last] != [2]int{last, last - 1} {
		t.Errorf("%d pairs of a ring", len(p))
	}
}

// P1: an array as great as a heap may have it, full of references to itself.
func TestGreatArray(t *testing.T) {
	h := great(t, class("E"))
	h.Object("E")
	size := int64(api.MaxRoom - 2)
	if _, e := h.Array("Object", size); e != api.OK {
		t.Fatal(e)
	}
	for at := range size {
		set(t, h, 1, at, ref(1))
	}
	l := graph.Sent(h, 1)
	if len(l) != int(size) || l[0] != 0 || l[size-1] != int(size)-1 {
		t.Errorf("%d sent slots", len(l))
	}
	checkReach(t, h, ref(1), 1)
	checkCycle(t, h, ref(1), true)
	set(t, h, 1, size-1, ref(0))
	checkReach(t, h, ref(1), 1, 0)
	checkAlike(t, h, ref(1), h, ref(1), [2]int{1, 1}, [2]int{0, 0})
}

// P1: the time does not grow with the number of ways to an object: each of two objects of a layer refers to both of the next one.
func TestManyWays(t *testing.T) {
	const layers = 2000
	build := func() *heap.Heap {
		h := great(t, class("N", "a:N", "b:N"))
		for range 2 * layers {
			h.Object("N")
		}
		for n := range 2 * (layers - 1) {
			next := n - n%2 + 2
			link(t, h, [3]int{n, 0, next}, [3]int{n, 1, next + 1})
		}
		return h
	}
	h, g := build(), build()
	if n := len(graph.Reach(h, ref(0))); n != 2*layers-1 || graph.Cycle(h, ref(0)) || !graph.Alike(h, ref(0), g, ref(0)) {
		t.Errorf("%d objects", n)
	}
	set(t, h, h.Len()-1, 1, ref(0))
	if !graph.Cycle(h, ref(0)) || graph.Alike(h, ref(0), g, ref(0)) || !graph.Alike(h, ref(0), h, ref(0)) {
		t.Error("the last layer refers to the first one")
	}
}

// checkUnchanged calls f and checks that the heap is the same before and after.
func checkUnchanged(t *testing.T, h *heap.Heap, f func()) {
	t.Helper()
	n, left, cells := h.Len(), h.Left(), h.Cells()
	f()
	if h.Len() != n || h.Left() != left || !sameCells(h.Cells(), cells) {
		t.Errorf("%v became %v", cells, h.Cells())
	}
}

// P1: the heaps stay as they are, whatever the calls are given, and what is returned may be changed.
func TestMemory(t *testing.T) {
	h, g := zooHeap(t, "N", "M", "Object[4]", "E"), zooHeap(t, "E", "Object[4]", "M", "N")
	link(t, h, [3]int{0, 0, 1}, [3]int{0, 2, 2}, [3]int{1, 3, 3}, [3]int{2, 3, 0}, [3]int{2, 0, 3})
	link(t, g, [3]int{3, 0, 2}, [3]int{3, 2, 1}, [3]int{1, 3, 3}, [3]int{1, 0, 0})
	spoil := func(l []int) {
		l = l[:cap(l)]
		for i := range l {
			l[i] = -7
		}
	}
	checkUnchanged(t, h, func() {
		checkUnchanged(t, g, func() {
			for range 2 {
				checkSent(t, h, 1, 0, 1, 2, 4, 6)
				checkReach(t, h, ref(0), 0, 1, 2, 3)
				checkAlike(t, h, ref(0), g, ref(3), [2]int{0, 3}, [2]int{1, 2}, [2]int{2, 1}, [2]int{3, 0})
				checkCycle(t, h, ref(0), true)
				spoil(graph.Sent(h, 1))
				spoil(graph.Sent(h, 2))
				spoil(graph.Reach(h, ref(0)))
				clear(graph.Pairs(h, ref(0), g, ref(3)))
			}
		})
	})
}

// P1: all calls with all arguments that the other tests have, of two heaps and of an empty one.
func TestNonsense(t *testing.T) {
	full, empty := zooHeap(t, zooKinds...), zooHeap(t)
	link(t, full, [3]int{0, 0, 1}, [3]int{1, 2, 9}, [3]int{9, 1, 0})
	for _, a := range []*heap.Heap{full, empty} {
		values := append(append(plain(), nowhere(a)...), append(odd(0), ref(0), ref(9), ref(13))...)
		for _, v := range values {
			checkUnchanged(t, a, func() {
				graph.Sent(a, v.Ref)
				graph.Reach(a, v)
				graph.Cycle(a, v)
				for _, w := range values {
					for _, b := range []*heap.Heap{full, empty} {
						if pairs := graph.Pairs(a, v, b, w); len(pairs) > 0 && !graph.Alike(a, v, b, w) {
							t.Errorf("%v and %v: %v", v, w, pairs)
						}
					}
				}
			})
		}
	}
}
