package heap_test

import (
	"math"
	"slices"
	"strings"
	"testing"

	"squinch/api"
	"squinch/heap"
)

// P9.1, P9.3
func TestNew(t *testing.T) {
	table := zoo(t)
	for _, room := range []int{0, 1, 2, 1000, api.MaxRoom - 1, api.MaxRoom} {
		h, e := heap.New(table, room)
		if e != api.OK || h == nil {
			t.Fatalf("New(%d): %v, %d", room, h, e)
		}
		if h.Len() != 0 || h.Left() != room || len(h.Cells()) != 0 || !h.Right() || h.Table() != table {
			t.Errorf("New(%d): %d objects, %d left, %v", room, h.Len(), h.Left(), h.Cells())
		}
	}
	for _, room := range []int{-1, -2, api.MaxRoom + 1, api.MaxRoom + 2, 1 << 32, -1 << 32, math.MaxInt, math.MinInt} {
		if h, e := heap.New(table, room); h != nil || e != api.ErrHeapRoom {
			t.Errorf("New(%d): %v, %d", room, h, e)
		}
	}
}

// The chapter's example.
func TestExample(t *testing.T) {
	h := empty(t, 10)
	if n, e := h.Object("ZeroFault"); n != 0 || e != api.OK {
		t.Error(n, e)
	}
	if n, e := h.Array("int", 3); n != 1 || e != api.OK {
		t.Error(n, e)
	}
	if h.Left() != 4 || h.Len() != 2 {
		t.Error(h.Left(), h.Len())
	}
}

// checkNewest checks the object that was created last.
func checkNewest(t *testing.T, h *heap.Heap, kind string, kinds []string) {
	t.Helper()
	zero := map[string]api.Value{"int": num(0), "bool": flag(0), "text": text("")}
	n := h.Len() - 1
	if h.Kind(n) != kind || h.Size(n) != len(kinds) || !h.Right() {
		t.Errorf("object %d: %s of %d, want %s of %d", n, h.Kind(n), h.Size(n), kind, len(kinds))
	}
	for at, k := range kinds {
		if v, e := h.Get(n, int64(at)); v != zero[k] || e != api.OK {
			t.Errorf("%s: value %d is %v, %d, of kind %s", kind, at, v, e, k)
		}
	}
}

// P9.1: the objects of all classes.
func TestObject(t *testing.T) {
	h := empty(t, 1000)
	left := 1000
	for range 2 {
		for _, class := range h.Table().Names() {
			want, ok := layouts[class]
			if !ok {
				checkNoObject(t, h, class)
				continue
			}
			number := h.Len()
			n, e := h.Object(class)
			if n != number || e != api.OK {
				t.Errorf("Object(%s): %d, %d, want %d", class, n, e, number)
			}
			kinds := strings.Fields(want)
			left -= 1 + len(kinds)
			if h.Left() != left || h.Len() != number+1 {
				t.Errorf("Object(%s): %d left, want %d", class, h.Left(), left)
			}
			checkNewest(t, h, class, kinds)
		}
	}
}

func checkNoObject(t *testing.T, h *heap.Heap, class string) {
	t.Helper()
	unchanged(t, h, func() {
		if n, e := h.Object(class); n != 0 || e != api.ErrHeapKind {
			t.Errorf("Object(%.50q): %d, %d", class, n, e)
		}
	})
}

// P9.1: kinds that are no instantiable classes, whether or not there is room.
func TestObjectErrors(t *testing.T) {
	full, roomy := filled(t, 1, "E"), filled(t, 1000, "C", "A[]", "D")
	for _, s := range append(strange(), "A", "T", "I", "J", "int", "bool", "text", "null", "B[]", "Object[]", "E[][][]", "int[]") {
		checkNoObject(t, full, s)
		checkNoObject(t, roomy, s)
	}
}

// P9.1: all kinds of elements.
func TestArray(t *testing.T) {
	h := empty(t, 10000)
	left := 10000
	for _, elem := range kinds(t) {
		if elem == "null" || strings.HasSuffix(elem, "[][][]") {
			continue
		}
		for _, n := range []int{0, 1, 2, 5} {
			number := h.Len()
			got, e := h.Array(elem, int64(n))
			if got != number || e != api.OK {
				t.Errorf("Array(%s, %d): %d, %d, want %d", elem, n, got, e, number)
			}
			left -= 1 + n
			if h.Left() != left || h.Len() != number+1 {
				t.Errorf("Array(%s, %d): %d left, want %d", elem, n, h.Left(), left)
			}
			checkNewest(t, h, elem+"[]", slices.Repeat([]string{elem}, n))
		}
	}
}

// P9.1: a kind that may not be before a number that may not be before too little room.
func TestArrayErrors(t *testing.T) {
	full, roomy := filled(t, 1, "E"), filled(t, 1000, "C", "A[]", "D")
	check := func(h *heap.Heap, elem string, n int64, want api.Errno) {
		t.Helper()
		unchanged(t, h, func() {
			if got, e := h.Array(elem, n); got != 0 || e != want {
				t.Errorf("Array(%.50q, %d): %d, %d, want %d", elem, n, got, e, want)
			}
		})
	}
	for _, n := range numbers() {
		for _, elem := range append(strange(), "null", "A[][][]", "int[][][]", "Z[][][]") {
			check(full, elem, n, api.ErrHeapKind)
			check(roomy, elem, n, api.ErrHeapKind)
		}
		for _, elem := range strings.Fields("int bool text A I T Object ZeroFault A[] int[][]") {
			switch {
			case n < 0:
				check(full, elem, n, api.ErrHeapPlace)
				check(roomy, elem, n, api.ErrHeapPlace)
			case n < 64:
				check(full, elem, n, api.ErrHeapRoom)
			case n > 1000:
				check(full, elem, n, api.ErrHeapRoom)
				check(roomy, elem, n, api.ErrHeapRoom)
			}
		}
	}
}

// P9.1: what just fits, and what does not.
func TestRoom(t *testing.T) {
	for room := range 30 {
		for class, layout := range layouts {
			need := 1 + len(strings.Fields(layout))
			h := empty(t, room)
			for n := range room / need {
				if got, e := h.Object(class); got != n || e != api.OK || h.Left() != room-(n+1)*need {
					t.Errorf("Object(%s) in a heap of %d: %d, %d", class, room, got, e)
				}
			}
			unchanged(t, h, func() {
				if got, e := h.Object(class); got != 0 || e != api.ErrHeapRoom {
					t.Errorf("Object(%s) with %d left: %d, %d", class, h.Left(), got, e)
				}
			})
		}
		for n := range int64(33) {
			h := empty(t, room)
			got, e := h.Array("B", n)
			if fits := 1+n <= int64(room); fits != (e == api.OK) || !fits && e != api.ErrHeapRoom || got != 0 || fits != (h.Len() == 1) || fits && h.Left() != room-1-int(n) || !fits && h.Left() != room {
				t.Errorf("Array(B, %d) in a heap of %d: %d, %d", n, room, got, e)
			}
		}
	}
}

// P9.1: the greatest heap.
func TestGreatestRoom(t *testing.T) {
	h := empty(t, api.MaxRoom)
	for _, n := range []int64{api.MaxRoom, api.MaxRoom + 1, math.MaxInt64} {
		if got, e := h.Array("int", n); got != 0 || e != api.ErrHeapRoom {
			t.Errorf("Array(int, %d): %d, %d", n, got, e)
		}
	}
	if n, e := h.Array("int", api.MaxRoom-1); n != 0 || e != api.OK || h.Left() != 0 || h.Size(0) != api.MaxRoom-1 {
		t.Error(n, e, h.Left())
	}
	set(t, h, 0, api.MaxRoom-2, num(5))
	if v, e := h.Get(0, api.MaxRoom-2); v != num(5) || e != api.OK || !h.Right() {
		t.Error(v, e)
	}
	h.Cut(0)
	for i := range api.MaxRoom {
		if n, e := h.Object("Object"); n != i || e != api.OK {
			t.Fatal(n, e)
		}
	}
	if n, e := h.Object("Object"); n != 0 || e != api.ErrHeapRoom || h.Len() != api.MaxRoom || h.Left() != 0 || !h.Right() {
		t.Error(n, e, h.Len(), h.Left())
	}
	h.Cut(1)
	if h.Len() != 1 || h.Left() != api.MaxRoom-1 {
		t.Error(h.Len(), h.Left())
	}
}

// P9.1: what is too great is left out, and what is small enough still gets the next number.
func TestNumbersAfterErrors(t *testing.T) {
	h := filled(t, 12, "C")
	for _, create := range []func() (int, api.Errno){
		func() (int, api.Errno) { return h.Object("A") },
		func() (int, api.Errno) { return h.Object("Z") },
		func() (int, api.Errno) { return h.Array("int", 9) },
		func() (int, api.Errno) { return h.Array("int", -1) },
	} {
		if n, e := create(); n != 0 || e == api.OK || h.Len() != 1 || h.Left() != 9 {
			t.Error(n, e, h.Len(), h.Left())
		}
	}
	if n, e := h.Object("B"); n != 1 || e != api.OK || h.Left() != 4 {
		t.Error(n, e, h.Left())
	}
	if n, e := h.Object("B"); n != 0 || e != api.ErrHeapRoom || h.Left() != 4 {
		t.Error(n, e, h.Left())
	}
	if n, e := h.Array("B", 3); n != 2 || e != api.OK || h.Left() != 0 {
		t.Error(n, e, h.Left())
	}
}

// A class that inherits more fields than it may have of its own.
func TestManyFields(t *testing.T) {
	const deep = 40
	h := deepHeap(t, deep)
	if n, e := h.Object("L39"); n != 0 || e != api.OK || h.Size(0) != deep*api.MaxParts || h.Left() != api.MaxRoom-1-deep*api.MaxParts {
		t.Fatal(n, e, h.Size(0))
	}
	for at := range int64(deep * api.MaxParts) {
		want := num(at)
		if at%2 == 1 {
			want = text("é")
		}
		if e := h.Set(0, at, flag(1)); e != api.ErrHeapKind {
			t.Errorf("Set at %d: %d", at, e)
		}
		set(t, h, 0, at, want)
		if v, e := h.Get(0, at); v != want || e != api.OK {
			t.Errorf("Get at %d: %v, %d", at, v, e)
		}
	}
	if e := h.Set(0, deep*api.MaxParts, num(0)); e != api.ErrHeapPlace || !h.Right() {
		t.Error(e)
	}
}
