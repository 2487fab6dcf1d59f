package send_test

import (
	"slices"
	"testing"

	"squinch/api"
	"squinch/heap"
	"squinch/send"
)

func checkPrints(t *testing.T, h *heap.Heap, l []api.Value, want ...[2]string) {
	t.Helper()
	if got := send.Prints(h, l); !slices.Equal(got, want) {
		t.Errorf("Prints(%.80v) = %q, want %q", l, got, want)
	}
}

// P12.2: each kind once, in the order in which they occur first.
func TestPrints(t *testing.T) {
	h := zooHeap(t, "N", "M", "L", "L", "Object[2]", "L[1]", "Object", "ZeroFault", "Fault", "P", "E")
	link(t, h, [3]int{0, 0, 4}, [3]int{0, 2, 2}, [3]int{4, 0, 3}, [3]int{4, 1, 1}, [3]int{1, 0, 5}, [3]int{5, 0, 2}, [3]int{1, 3, 10})
	n, m, l, array, list := [2]string{"N", printN}, [2]string{"M", printM}, [2]string{"L", printL}, [2]string{"Object[]", ""}, [2]string{"L[]", ""}
	checkPrints(t, h, refs(0), n, array, l, m, list)
	checkPrints(t, h, refs(1), m, list, l)
	checkPrints(t, h, refs(4), array, l, m, list)
	checkPrints(t, h, refs(2, 3), l)
	checkPrints(t, h, refs(3, 5, 1, 0), l, list, m, n, array)
	checkPrints(t, h, refs(6, 7), [2]string{"Object", ""}, [2]string{"ZeroFault", "ZeroFault(Fault() what:text.)."})
	checkPrints(t, h, refs(8, 9, 8), [2]string{"Fault", "Fault() what:text."}, [2]string{"P", printP})
	checkPrints(t, h, []api.Value{num(3), ref(10), text("a"), ref(10)}, [2]string{"E", "E()."})
}

// P12.2: the print has what a class inherits, and nothing that is Transient, and kinds as they are written.
func TestPrintsOfDerived(t *testing.T) {
	h := filled(t, table(t, class("C B", "-e:int"), class("A", "-a:int", "b:C[][]"), class("B A", "c:text", "-d:int", "f:A[]")), "C", "B", "A", "A[1]", "A[][1]")
	a, b, c := "A() b:C[][].", "B(A() b:C[][].) c:text f:A[].", "C(B(A() b:C[][].) c:text f:A[].)."
	checkPrints(t, h, refs(0, 1, 2, 4, 3), [2]string{"C", c}, [2]string{"B", b}, [2]string{"A", a}, [2]string{"A[][]", ""}, [2]string{"A[]", ""})
}

// P12.2: values that are not valid are no obstacle, nor are limits; what refers to no object has nothing.
func TestPrintsOfValues(t *testing.T) {
	h := zooHeap(t, "L", "N", "E", "int[1]")
	link(t, h, [3]int{1, 0, 0})
	none := slices.Concat(plain(), wrong(), nowhere(h))
	checkPrints(t, h, nil)
	for _, v := range none {
		checkPrints(t, h, []api.Value{v})
		checkPrints(t, h, []api.Value{v, ref(2), v}, [2]string{"E", "E()."})
	}
	for _, v := range odd(1) {
		checkPrints(t, h, []api.Value{v}, [2]string{"N", printN}, [2]string{"L", printL})
		checkPrints(t, h, []api.Value{ref(2), v}, [2]string{"E", "E()."}, [2]string{"N", printN}, [2]string{"L", printL})
	}
	checkPrints(t, h, append(none, refs(3)...), [2]string{"int[]", ""})
	checkPrints(t, h, append(make([]api.Value, 100), odd(0)...), [2]string{"L", printL})
	checkPrints(t, zooHeap(t), slices.Concat(plain(), wrong(), refs(0, 1, -1)))
}
