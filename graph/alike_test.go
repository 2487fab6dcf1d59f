package graph_test

import (
	"slices"
	"testing"

	"squinch/api"
	"squinch/graph"
	"squinch/heap"
)

// checkAlike checks that two values are isomorphic, both ways, with this correspondence.
func checkAlike(t *testing.T, a *heap.Heap, v api.Value, b *heap.Heap, w api.Value, want ...[2]int) {
	t.Helper()
	if !graph.Alike(a, v, b, w) || !graph.Alike(b, w, a, v) {
		t.Errorf("%.50v and %.50v are not isomorphic", v, w)
	}
	if got := graph.Pairs(a, v, b, w); !slices.Equal(got, want) {
		t.Errorf("Pairs of %.50v and %.50v: %v, want %v", v, w, got, want)
	}
	var back [][2]int
	for _, p := range want {
		back = append(back, [2]int{p[1], p[0]})
	}
	if got := graph.Pairs(b, w, a, v); !slices.Equal(got, back) {
		t.Errorf("Pairs of %.50v and %.50v: %v, want %v", w, v, got, back)
	}
}

func checkUnlike(t *testing.T, a *heap.Heap, v api.Value, b *heap.Heap, w api.Value) {
	t.Helper()
	if graph.Alike(a, v, b, w) || graph.Alike(b, w, a, v) {
		t.Errorf("%.50v and %.50v are isomorphic", v, w)
	}
	if p, q := graph.Pairs(a, v, b, w), graph.Pairs(b, w, a, v); len(p) != 0 || len(q) != 0 {
		t.Errorf("Pairs of %.50v and %.50v: %v, %v", v, w, p, q)
	}
}

// P11.2: the example of the chapter.
func TestExample(t *testing.T) {
	zoo := table(t, class("A", "next:A"))
	one, other, two := filled(t, zoo, "A"), filled(t, zoo, "A", "A"), filled(t, zoo, "A", "A")
	link(t, one, [3]int{0, 0, 0})
	link(t, other, [3]int{1, 0, 1})
	link(t, two, [3]int{0, 0, 1}, [3]int{1, 0, 0})
	checkAlike(t, one, ref(0), other, ref(1), [2]int{0, 1})
	checkUnlike(t, one, ref(0), two, ref(0))
	checkUnlike(t, one, ref(0), two, ref(1))
	checkUnlike(t, other, ref(1), two, ref(0))
	checkUnlike(t, one, ref(0), other, ref(0))
	// Those that refer to each other are isomorphic, in one heap.
	checkAlike(t, two, ref(0), two, ref(1), [2]int{0, 1}, [2]int{1, 0})
	checkAlike(t, two, ref(0), two, ref(0), [2]int{0, 0}, [2]int{1, 1})
}

// P11.2: values that are not references are isomorphic if they are equal as a whole.
func TestAlikePlain(t *testing.T) {
	a, b := zooHeap(t, "N", "N", "N"), zooHeap(t)
	for i, v := range plain() {
		for k, w := range plain() {
			if i == k {
				checkAlike(t, a, v, b, w)
			} else {
				checkUnlike(t, a, v, b, w)
			}
		}
		for n := range 3 {
			checkUnlike(t, a, v, a, ref(n))
		}
		for _, w := range nowhere(a) {
			checkUnlike(t, a, v, a, w)
		}
	}
}

// P11.2: a reference to no object is isomorphic to nothing, not even to itself.
func TestAlikeNowhere(t *testing.T) {
	a, b := zooHeap(t, "E"), zooHeap(t, "E", "E")
	for _, v := range nowhere(a) {
		for _, w := range append(nowhere(b), ref(0), ref(1)) {
			checkUnlike(t, a, v, b, w)
		}
		checkUnlike(t, a, v, a, v)
	}
	// There is such an object in the other heap alone.
	checkUnlike(t, a, ref(1), b, ref(1))
	checkAlike(t, a, ref(0), b, ref(1), [2]int{0, 1})
}

// P11.2: whatever else a reference has.
func TestAlikeOdd(t *testing.T) {
	h := zooHeap(t, "E", "L", "E")
	for _, v := range odd(2) {
		checkAlike(t, h, v, h, ref(0), [2]int{2, 0})
		checkUnlike(t, h, v, h, ref(1))
		for _, w := range odd(0) {
			checkAlike(t, h, v, h, w, [2]int{2, 0})
		}
	}
}

// P11.2: corresponding objects have the same kind, even if nothing else tells them apart.
func TestAlikeKinds(t *testing.T) {
	kinds := []string{"N", "M", "L", "O", "P", "E", "Object", "Fault", "ZeroFault", "NullFault", "int[0]", "text[0]", "int[][0]", "N[0]", "N[1]", "L[1]", "Object[1]", "Object[2]", "Object[][1]"}
	a, b := zooHeap(t, kinds...), zooHeap(t, kinds...)
	for i := range kinds {
		for k := range kinds {
			if i == k {
				checkAlike(t, a, ref(i), b, ref(k), [2]int{i, k})
			} else {
				checkUnlike(t, a, ref(i), b, ref(k))
			}
			// Behind another object, too.
			x, y := zooHeap(t, "N", kinds[i]), zooHeap(t, "N", "E", kinds[k])
			link(t, x, [3]int{0, 2, 1})
			link(t, y, [3]int{0, 2, 2})
			if i == k {
				checkAlike(t, x, ref(0), y, ref(0), [2]int{0, 0}, [2]int{1, 2})
			} else {
				checkUnlike(t, x, ref(0), y, ref(0))
			}
		}
	}
}

// P11.2: other values in corresponding sent slots are equal.
func TestAlikeSlots(t *testing.T) {
	zoo := table(t, class("V", "n:int", "b:bool", "s:text", "-t:int", "o:Object"), class("E"))
	values := [][]api.Value{{num(0), num(1), num(-1), num(1 << 40)}, {flag(0), flag(1)}, {text(""), text("a"), text("é")}, {num(0), num(1), num(2)}, {null, ref(0), ref(1)}}
	for at, l := range values {
		for _, v := range l {
			for _, w := range l {
				a, b := filled(t, zoo, "V", "E"), filled(t, zoo, "V", "E")
				set(t, a, 0, int64(at), v)
				set(t, b, 0, int64(at), w)
				switch {
				case v != w && at != 3:
					checkUnlike(t, a, ref(0), b, ref(0))
				case v == ref(1):
					checkAlike(t, a, ref(0), b, ref(0), [2]int{0, 0}, [2]int{1, 1})
				default:
					checkAlike(t, a, ref(0), b, ref(0), [2]int{0, 0})
				}
			}
		}
	}
}

// P11.2: what an object has in one sent slot is not what it has in another one.
func TestAlikePlaces(t *testing.T) {
	a, b := zooHeap(t, "N", "E", "int[2]", "int[2]", "Object[3]"), zooHeap(t, "N", "E", "int[2]", "int[3]", "Object[3]")
	link(t, a, [3]int{0, 0, 1}, [3]int{4, 1, 1})
	link(t, b, [3]int{0, 2, 1}, [3]int{4, 2, 1})
	set(t, a, 2, 1, num(5))
	set(t, b, 2, 1, num(5))
	set(t, b, 3, 1, num(5))
	checkUnlike(t, a, ref(0), b, ref(0))
	checkUnlike(t, a, ref(4), b, ref(4))
	checkUnlike(t, a, ref(2), a, ref(3))
	checkUnlike(t, a, ref(2), b, ref(3))
	checkAlike(t, a, ref(2), b, ref(2), [2]int{2, 2})
}

// P11.2: what is not sent does not matter, and nothing that is reachable by it alone.
func TestAlikeTransient(t *testing.T) {
	a, b := zooHeap(t, "M", "E", "O", "P", "P"), zooHeap(t, "E", "M", "L", "Object[1]", "O", "P")
	link(t, a, [3]int{0, 3, 1}, [3]int{2, 0, 0}, [3]int{3, 0, 3})
	link(t, b, [3]int{1, 7, 3}, [3]int{3, 0, 2}, [3]int{4, 0, 4})
	set(t, a, 0, 5, num(1))
	set(t, b, 4, 1, num(1))
	checkAlike(t, a, ref(0), b, ref(1), [2]int{0, 1})
	checkAlike(t, a, ref(2), b, ref(4), [2]int{2, 4})
	checkAlike(t, a, ref(3), b, ref(5), [2]int{3, 5})
	checkAlike(t, a, ref(3), a, ref(4), [2]int{3, 4})
	set(t, a, 4, 2, flag(1))
	checkUnlike(t, a, ref(3), a, ref(4))
}

// P11.2: the correspondence is one-to-one.
func TestAlikeShared(t *testing.T) {
	shared, apart, both := zooHeap(t, "N", "E", "E"), zooHeap(t, "N", "E", "E"), zooHeap(t, "N", "E", "E")
	link(t, shared, [3]int{0, 0, 1}, [3]int{0, 2, 1})
	link(t, apart, [3]int{0, 0, 1}, [3]int{0, 2, 2})
	link(t, both, [3]int{0, 0, 2}, [3]int{0, 2, 1})
	checkUnlike(t, shared, ref(0), apart, ref(0))
	checkAlike(t, apart, ref(0), both, ref(0), [2]int{0, 0}, [2]int{1, 2}, [2]int{2, 1})
	// As many objects, and references, but not from the same ones.
	x, y := zooHeap(t, "N", "N", "N", "N"), zooHeap(t, "N", "N", "N", "N")
	link(t, x, [3]int{0, 0, 1}, [3]int{0, 2, 2}, [3]int{1, 0, 3}, [3]int{2, 0, 3})
	link(t, y, [3]int{0, 0, 1}, [3]int{0, 2, 2}, [3]int{1, 0, 3}, [3]int{2, 0, 1})
	checkUnlike(t, x, ref(0), y, ref(0))
	set(t, y, 2, 0, ref(3))
	checkAlike(t, x, ref(0), y, ref(0), [2]int{0, 0}, [2]int{1, 1}, [2]int{2, 2}, [2]int{3, 3})
}

// P11.2: rings are isomorphic from each of their objects if they are of the same length, and one that is entered is not.
func TestAlikeRings(t *testing.T) {
	ring := func(n, extra int) *heap.Heap {
		h := zooHeap(t, slices.Repeat([]string{"L"}, n+extra)...)
		for i := range n + extra {
			set(t, h, i, 0, ref((i+1)%(n+extra)))
		}
		set(t, h, n+extra-1, 0, ref(extra))
		return h
	}
	for n := 1; n < 6; n++ {
		for m := 1; m < 6; m++ {
			if n != m {
				checkUnlike(t, ring(n, 0), ref(0), ring(m, 0), ref(m-1))
				continue
			}
			a, b := ring(n, 0), ring(n, 0)
			for from := range n {
				var want [][2]int
				for i := range n {
					want = append(want, [2]int{i, (from + i) % n})
				}
				checkAlike(t, a, ref(0), b, ref(from), want...)
			}
			checkUnlike(t, a, ref(0), ring(n, 1), ref(0))
			checkUnlike(t, ring(n+1, 0), ref(0), ring(n, 1), ref(0))
		}
	}
}

// P11.2: two values of one heap, one of which is reachable from the other.
func TestAlikeOneHeap(t *testing.T) {
	h := zooHeap(t, "L", "L", "L", "L", "N")
	link(t, h, [3]int{0, 0, 1}, [3]int{1, 0, 2}, [3]int{3, 0, 2})
	checkAlike(t, h, ref(1), h, ref(3), [2]int{1, 3}, [2]int{2, 2})
	checkUnlike(t, h, ref(0), h, ref(1))
	checkUnlike(t, h, ref(0), h, ref(3))
	link(t, h, [3]int{2, 0, 0})
	checkAlike(t, h, ref(0), h, ref(1), [2]int{0, 1}, [2]int{1, 2}, [2]int{2, 0})
}

// P11.2: of two tables with the same layouts, the first sent slot corresponds to the first one, wherever they are.
func TestAlikeTables(t *testing.T) {
	plainTable := table(t, class("A", "x:int", "next:A"), class("B A", "y:int"))
	other := table(t, class("Z"), class("B A", "-u:int", "y:int", "-v:A"), class("A", "-t:A", "x:int", "-s:text", "next:A"))
	a, b := filled(t, plainTable, "A", "B"), filled(t, other, "B", "A")
	link(t, a, [3]int{0, 1, 1}, [3]int{1, 1, 0})
	link(t, b, [3]int{0, 3, 1}, [3]int{1, 3, 0}, [3]int{1, 0, 1}, [3]int{0, 6, 0})
	set(t, a, 0, 0, num(7))
	set(t, b, 1, 1, num(7))
	set(t, a, 1, 0, num(9))
	set(t, b, 0, 1, num(9))
	set(t, a, 1, 2, num(3))
	set(t, b, 0, 5, num(3))
	checkAlike(t, a, ref(0), b, ref(1), [2]int{0, 1}, [2]int{1, 0})
	checkAlike(t, a, ref(1), b, ref(0), [2]int{1, 0}, [2]int{0, 1})
	checkUnlike(t, a, ref(0), b, ref(0))
	set(t, b, 0, 4, num(3))
	checkAlike(t, a, ref(0), b, ref(1), [2]int{0, 1}, [2]int{1, 0})
	set(t, b, 0, 5, num(4))
	checkUnlike(t, a, ref(0), b, ref(1))
}

// P11.2: objects of the same kind, by its name, may have sent slots of another number.
func TestAlikeNumbersOfSlots(t *testing.T) {
	tables := [][]string{{}, {"x:int"}, {"x:int", "y:int"}, {"x:int", "y:int", "z:A"}}
	for i, l := range tables {
		for k, m := range tables {
			a, b := filled(t, table(t, class("A", l...)), "A", "A[1]"), filled(t, table(t, class("A", m...)), "A", "A[1]")
			link(t, a, [3]int{1, 0, 0})
			link(t, b, [3]int{1, 0, 0})
			if i == k {
				checkAlike(t, a, ref(1), b, ref(1), [2]int{1, 1}, [2]int{0, 0})
				continue
			}
			checkUnlike(t, a, ref(0), b, ref(0))
			checkUnlike(t, a, ref(1), b, ref(1))
		}
	}
	// Neither their names nor their kinds matter, only what they have.
	a, b := filled(t, table(t, class("A", "x:int", "o:Object")), "A"), filled(t, table(t, class("A", "y:int", "-z:int", "p:A")), "A")
	checkAlike(t, a, ref(0), b, ref(0), [2]int{0, 0})
	a, b = filled(t, table(t, class("A", "x:int")), "A"), filled(t, table(t, class("A", "x:bool")), "A")
	checkUnlike(t, a, ref(0), b, ref(0))
}
