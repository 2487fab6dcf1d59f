package graph_test

import (
	"slices"
	"testing"

	"squinch/api"
	"squinch/graph"
	"squinch/heap"
)

func checkSent(t *testing.T, h *heap.Heap, ref int, want ...int) {
	t.Helper()
	if got := graph.Sent(h, ref); !slices.Equal(got, want) {
		t.Errorf("Sent(%d) of %q = %v, want %v", ref, h.Kind(ref), got, want)
	}
}

func checkReach(t *testing.T, h *heap.Heap, v api.Value, want ...int) {
	t.Helper()
	if got := graph.Reach(h, v); !slices.Equal(got, want) {
		t.Errorf("Reach(%v) = %v, want %v", v, got, want)
	}
}

// P11.1
func TestSent(t *testing.T) {
	kinds := []string{"N", "M", "L", "O", "P", "E", "Fault", "ZeroFault", "Object", "N[0]", "N[1]", "int[3]", "text[][2]", "O[2]"}
	h := zooHeap(t, kinds...)
	for n, want := range [][]int{{0, 1, 2}, {0, 1, 2, 4, 6}, {0}, {}, {2}, {}, {0}, {0}, {}, {}, {0}, {0, 1, 2}, {0, 1}, {0, 1}} {
		checkSent(t, h, n, want...)
	}
	checkSent(t, h, len(kinds))
	for _, n := range numbers() {
		checkSent(t, h, n)
	}
	// What the slots have does not matter.
	link(t, h, [3]int{1, 0, 1}, [3]int{1, 3, 1}, [3]int{1, 6, 1}, [3]int{13, 1, 4})
	set(t, h, 1, 5, num(7))
	checkSent(t, h, 1, 0, 1, 2, 4, 6)
	checkSent(t, h, 13, 0, 1)
}

// P11.1: an inherited field is Transient as it is in the class to which it belongs; those of another table may be others.
func TestSentOfDerived(t *testing.T) {
	h := filled(t, table(t,
		class("C B", "-e:int"),
		class("A", "-a:int", "b:int"),
		class("B A", "c:int", "-d:int"),
		class("D C", "f:int"),
	), "A", "B", "C", "D", "D[][2]")
	checkSent(t, h, 0, 1)
	checkSent(t, h, 1, 1, 2)
	checkSent(t, h, 2, 1, 2)
	checkSent(t, h, 3, 1, 2, 5)
	checkSent(t, h, 4, 0, 1)
	checkSent(t, filled(t, table(t, class("A", "a:int", "-b:int")), "A"), 0, 0)
}

// P11.1: breadth-first, each object where it is come to first.
func TestReach(t *testing.T) {
	h := zooHeap(t, "N", "N", "N", "N", "N", "N", "N")
	link(t, h, [3]int{6, 0, 2}, [3]int{6, 2, 0}, [3]int{2, 0, 4}, [3]int{2, 2, 3}, [3]int{0, 0, 3}, [3]int{0, 2, 1})
	checkReach(t, h, ref(6), 6, 2, 0, 4, 3, 1)
	checkReach(t, h, ref(2), 2, 4, 3)
	checkReach(t, h, ref(0), 0, 3, 1)
	checkReach(t, h, ref(5), 5)
	// Depth-first, 5 would be before 0.
	link(t, h, [3]int{4, 0, 5}, [3]int{3, 0, 6}, [3]int{5, 2, 1})
	checkReach(t, h, ref(6), 6, 2, 0, 4, 3, 1, 5)
	checkReach(t, h, ref(3), 3, 6, 2, 0, 4, 1, 5)
	checkReach(t, h, ref(1), 1)
}

// P11.1: an object that refers to itself, or twice to another one, is there once.
func TestReachOnce(t *testing.T) {
	h := zooHeap(t, "N", "N", "Object[5]", "L")
	link(t, h, [3]int{0, 0, 0}, [3]int{0, 2, 0})
	checkReach(t, h, ref(0), 0)
	link(t, h, [3]int{1, 0, 0}, [3]int{1, 2, 0})
	checkReach(t, h, ref(1), 1, 0)
	link(t, h, [3]int{2, 4, 1}, [3]int{2, 1, 3}, [3]int{2, 2, 1}, [3]int{2, 3, 2}, [3]int{3, 0, 3})
	checkReach(t, h, ref(2), 2, 3, 1, 0)
}

// P11.1: nothing is reachable by what is not sent.
func TestReachBySentSlots(t *testing.T) {
	h := zooHeap(t, "M", "E", "E", "E", "M", "Object[1]", "O", "P")
	link(t, h, [3]int{0, 3, 1}, [3]int{0, 7, 5}, [3]int{5, 0, 2}, [3]int{6, 0, 1}, [3]int{7, 0, 2})
	set(t, h, 0, 5, num(3))
	set(t, h, 0, 1, num(2))
	checkReach(t, h, ref(0), 0)
	checkReach(t, h, ref(6), 6)
	checkReach(t, h, ref(7), 7)
	link(t, h, [3]int{0, 6, 4}, [3]int{0, 2, 3}, [3]int{4, 0, 1})
	checkReach(t, h, ref(0), 0, 3, 4, 1)
	checkReach(t, h, ref(5), 5, 2)
}

// P11.1: arrays of arrays, and numbers that look as if they referred to objects.
func TestReachByArrays(t *testing.T) {
	h := zooHeap(t, "L", "L[2]", "L[][3]", "L[][][2]", "int[3]", "L[0]")
	link(t, h, [3]int{3, 1, 2}, [3]int{2, 0, 5}, [3]int{2, 2, 1}, [3]int{1, 1, 0})
	set(t, h, 4, 0, num(1))
	set(t, h, 4, 2, num(2))
	checkReach(t, h, ref(3), 3, 2, 5, 1, 0)
	checkReach(t, h, ref(4), 4)
	checkReach(t, h, ref(5), 5)
}

// P11.1: what is not a reference, or refers to no object; whatever else a reference has.
func TestReachOfValues(t *testing.T) {
	h := zooHeap(t, "N", "N", "L")
	link(t, h, [3]int{1, 2, 0}, [3]int{0, 0, 2})
	for _, v := range append(plain(), nowhere(h)...) {
		checkReach(t, h, v)
	}
	for _, v := range odd(1) {
		checkReach(t, h, v, 1, 0, 2)
	}
	empty := zooHeap(t)
	for _, v := range append(plain(), nowhere(empty)...) {
		checkReach(t, empty, v)
	}
	checkSent(t, empty, 0)
}

// P11.1: what is reachable now, not what was before.
func TestReachAfterChanges(t *testing.T) {
	h := zooHeap(t, "L", "L", "L")
	link(t, h, [3]int{0, 0, 1}, [3]int{1, 0, 2})
	checkReach(t, h, ref(0), 0, 1, 2)
	set(t, h, 1, 0, null)
	checkReach(t, h, ref(0), 0, 1)
	checkReach(t, h, ref(2), 2)
	h.Cut(2)
	checkReach(t, h, ref(2))
	checkSent(t, h, 2)
	h.Object("P")
	checkReach(t, h, ref(2), 2)
	checkSent(t, h, 2, 2)
}
