package graph_test

import (
	"testing"

	"squinch/api"
	"squinch/graph"
	"squinch/heap"
)

func checkCycle(t *testing.T, h *heap.Heap, v api.Value, want bool) {
	t.Helper()
	if got := graph.Cycle(h, v); got != want {
		t.Errorf("Cycle(%.50v) = %v, want %v", v, got, want)
	}
}

// P11.3
func TestCycle(t *testing.T) {
	h := zooHeap(t, "N", "N", "N", "N", "N", "N")
	link(t, h, [3]int{0, 0, 1}, [3]int{0, 2, 2}, [3]int{1, 0, 3}, [3]int{2, 0, 3}, [3]int{3, 2, 4})
	for n := range 6 {
		checkCycle(t, h, ref(n), false)
	}
	// The cycle begins behind the object to which the value refers.
	link(t, h, [3]int{4, 0, 2})
	for n, want := range []bool{true, true, true, true, true, false} {
		checkCycle(t, h, ref(n), want)
	}
	set(t, h, 3, 2, null)
	for n := range 6 {
		checkCycle(t, h, ref(n), false)
	}
}

// P11.3: an object that refers to itself.
func TestCycleOfOne(t *testing.T) {
	h := zooHeap(t, "L", "L", "Object[3]", "L")
	link(t, h, [3]int{0, 0, 0}, [3]int{1, 0, 0}, [3]int{3, 0, 1})
	checkCycle(t, h, ref(0), true)
	checkCycle(t, h, ref(1), true)
	checkCycle(t, h, ref(3), true)
	checkCycle(t, h, ref(2), false)
	link(t, h, [3]int{2, 1, 2})
	checkCycle(t, h, ref(2), true)
}

// P11.3: to refer to one object in several ways is no cycle.
func TestCycleOfSeveralWays(t *testing.T) {
	h := zooHeap(t, "Object[4]", "N", "E", "N")
	link(t, h, [3]int{0, 0, 1}, [3]int{0, 1, 2}, [3]int{0, 2, 1}, [3]int{0, 3, 3}, [3]int{1, 0, 2}, [3]int{1, 2, 2}, [3]int{3, 0, 1})
	for n := range 4 {
		checkCycle(t, h, ref(n), false)
	}
	link(t, h, [3]int{1, 2, 3})
	for n, want := range []bool{true, true, false, true} {
		checkCycle(t, h, ref(n), want)
	}
}

// P11.3: cycles by what is not sent, and those that are not reachable, do not count.
func TestCycleBySentSlots(t *testing.T) {
	h := zooHeap(t, "M", "M", "O", "Object[1]", "L")
	link(t, h, [3]int{0, 3, 0}, [3]int{0, 6, 1}, [3]int{1, 3, 0}, [3]int{2, 0, 2}, [3]int{1, 7, 3}, [3]int{3, 0, 1}, [3]int{4, 0, 4})
	checkCycle(t, h, ref(0), false)
	checkCycle(t, h, ref(1), false)
	checkCycle(t, h, ref(2), false)
	checkCycle(t, h, ref(3), false)
	checkCycle(t, h, ref(4), true)
	link(t, h, [3]int{1, 6, 0})
	checkCycle(t, h, ref(0), true)
	checkCycle(t, h, ref(3), true)
	checkCycle(t, h, ref(2), false)
}

// P11.3: what is not a reference, or refers to no object; whatever else a reference has.
func TestCycleOfValues(t *testing.T) {
	h := zooHeap(t, "L", "L", "L")
	link(t, h, [3]int{0, 0, 0}, [3]int{1, 0, 1})
	for _, v := range append(plain(), nowhere(h)...) {
		checkCycle(t, h, v, false)
	}
	for n, want := range []bool{true, true, false} {
		for _, v := range odd(n) {
			checkCycle(t, h, v, want)
		}
	}
}
