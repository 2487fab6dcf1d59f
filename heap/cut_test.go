package heap_test

import (
	"math"
	"slices"
	"strings"
	"testing"

	"squinch/api"
	"squinch/heap"
)

// P9.3: any number of objects, none of which refers to another one.
func TestCut(t *testing.T) {
	for _, n := range append(numbers(), 4, 5, 17, 18, 19) {
		h, whole := zooHeap(t), zooHeap(t)
		h.Cut(int(n))
		most := len(zooKinds)
		want := int(min(max(n, 0), int64(most)))
		if h.Len() != want || !sameCells(h.Cells(), whole.Cells()[:want]) || h.Left() != filled(t, 1000, zooKinds[:want]...).Left() || !h.Right() {
			t.Errorf("Cut(%d): %d objects, %d left", n, h.Len(), h.Left())
		}
		if h.Kind(want) != "" || h.Of(ref(want)) != "" {
			t.Errorf("Cut(%d): object %d is still there", n, want)
		}
	}
}

// P9.3: nothing to be removed.
func TestCutOfNothing(t *testing.T) {
	h := filled(t, 20, "C", "A[]")
	set(t, h, 0, 1, ref(0))
	for _, n := range []int{2, 3, 1 << 20, math.MaxInt} {
		unchanged(t, h, func() { h.Cut(n) })
	}
	none := empty(t, 7)
	for _, n := range numbers() {
		unchanged(t, none, func() { none.Cut(int(n)) })
	}
}

// P9.3: what remains may not refer to what is removed, whatever the objects are.
func TestCutWithReferences(t *testing.T) {
	kinds := strings.Fields("C D A[] Object[] C B")
	for _, x := range []struct {
		ref  int
		at   int64
		to   int
		kept string // the numbers from which on nothing is removed
	}{
		{0, 1, 0, ""}, {0, 1, 1, "1"}, {0, 1, 4, "1 2 3 4"}, {0, 1, 5, "1 2 3 4 5"},
		{1, 5, 0, ""}, {1, 5, 1, ""}, {1, 5, 2, "2"}, {1, 2, 2, "2"}, {1, 5, 5, "2 3 4 5"},
		{2, 0, 4, "3 4"}, {2, 1, 5, "3 4 5"}, {2, 1, 1, ""}, {3, 0, 3, ""}, {3, 1, 4, "4"}, {3, 0, 5, "4 5"}, {4, 1, 5, "5"}, {4, 1, 0, ""}, {5, 1, 0, ""}, {5, 1, 5, ""},
	} {
		for n := -1; n < 8; n++ {
			h := filled(t, 100, kinds...)
			set(t, h, x.ref, x.at, ref(x.to))
			if slices.Contains(strings.Fields(x.kept), string(rune('0'+max(n, 0)))) {
				unchanged(t, h, func() { h.Cut(n) })
				continue
			}
			want := min(max(n, 0), len(kinds))
			cells := h.Cells()
			h.Cut(n)
			if h.Len() != want || !sameCells(h.Cells(), cells[:want]) || h.Left() != filled(t, 100, kinds[:want]...).Left() || !h.Right() {
				t.Errorf("%v, Cut(%d): %d objects, %d left", x, n, h.Len(), h.Left())
			}
		}
	}
}

// P9.3: numbers, bools, texts and null are no references, though their numbers are those of objects.
func TestCutWithNumbers(t *testing.T) {
	h := filled(t, 100, "D", "int[]", "E", "E")
	set(t, h, 0, 0, num(2))
	set(t, h, 0, 4, flag(1))
	set(t, h, 1, 0, num(3))
	set(t, h, 1, 1, num(math.MaxInt64))
	set(t, h, 0, 3, text("2"))
	h.Cut(2)
	if h.Len() != 2 || h.Left() != 100-7-3 {
		t.Error(h.Len(), h.Left())
	}
	h.Cut(1)
	if h.Len() != 1 || h.Left() != 100-7 {
		t.Error(h.Len(), h.Left())
	}
}

// P9.3: a reference that was removed does not count any more.
func TestCutAfterSet(t *testing.T) {
	h := filled(t, 100, "C", "C", "C")
	set(t, h, 0, 1, ref(2))
	unchanged(t, h, func() { h.Cut(1) })
	unchanged(t, h, func() { h.Cut(2) })
	set(t, h, 0, 1, ref(1))
	h.Cut(2)
	if h.Len() != 2 {
		t.Error(h.Len())
	}
	unchanged(t, h, func() { h.Cut(1) })
	set(t, h, 0, 1, null)
	h.Cut(1)
	if h.Len() != 1 || h.Left() != 97 {
		t.Error(h.Len(), h.Left())
	}
}

// P9.3: the room that was freed is used again, for objects with the same numbers and their initial values.
func TestCreateAfterCut(t *testing.T) {
	h := filled(t, 12, "C", "C", "B")
	for range 3 {
		if _, e := h.Array("text", 0); h.Left() != 0 || e != api.OK {
			t.Fatal(h.Left(), e)
		}
		set(t, h, 2, 0, num(9))
		set(t, h, 2, 1, ref(2))
		h.Cut(1)
		if h.Left() != 9 || h.Len() != 1 {
			t.Fatal(h.Left(), h.Len())
		}
		if n, e := h.Array("C", 2); n != 1 || e != api.OK || h.Kind(1) != "C[]" {
			t.Error(n, e)
		}
		if n, e := h.Object("B"); n != 2 || e != api.OK {
			t.Error(n, e)
		}
		checkNewest(t, h, "B", strings.Fields(layouts["B"]))
	}
}

// P9.3
func TestCells(t *testing.T) {
	h := filled(t, 100, "C", "D", "A[]", "E")
	h.Array("int", 0)
	set(t, h, 0, 0, num(-5))
	set(t, h, 0, 1, ref(1))
	set(t, h, 1, 2, ref(2))
	set(t, h, 1, 3, text("é"))
	set(t, h, 1, 4, flag(1))
	set(t, h, 1, 5, ref(4))
	set(t, h, 2, 1, ref(0))
	want := []api.Cell{
		{Kind: "C", Values: []api.Value{num(-5), ref(1)}},
		{Kind: "D", Values: []api.Value{num(0), null, ref(2), text("é"), flag(1), ref(4)}},
		{Kind: "A[]", Values: []api.Value{null, ref(0)}},
		{Kind: "E"},
		{Kind: "int[]"},
	}
	if got := h.Cells(); !sameCells(got, want) || h.Len() != 5 || h.Left() != 100-3-7-3-1-1 {
		t.Errorf("%v, %d left", got, h.Left())
	}
}

// P9.3: two heaps of one table are apart.
func TestHeapsAreApart(t *testing.T) {
	table := zoo(t)
	a, _ := heap.New(table, 10)
	b, _ := heap.New(table, 5)
	a.Object("C")
	if b.Len() != 0 || b.Left() != 5 || a.Table() != b.Table() || a.Table() != table {
		t.Error(b.Len(), b.Left())
	}
	b.Object("C")
	set(t, a, 0, 0, num(1))
	if v, _ := b.Get(0, 0); v != num(0) {
		t.Error(v)
	}
	b.Cut(0)
	if a.Len() != 1 || a.Kind(0) != "C" {
		t.Error(a.Len())
	}
}
