package take_test

import (
	"math"
	"strconv"
	"strings"
	"testing"

	"squinch/api"
	"squinch/graph"
	"squinch/heap"
	"squinch/send"
	"squinch/take"
)

// P13.2: the one value, and what comes with it.
func TestGet(t *testing.T) {
	for _, c := range []struct {
		b     []byte
		want  api.Value
		cells []api.Cell
	}{
		{join(0, 0, 1, 1, 10), num(5), nil},
		{join(0, 0, 1, 0), null, nil},
		{join(0, 0, 1, 2, 1), flag(1), nil},
		{join(0, 0, 1, 3, "é"), text("é"), nil},
		{join(1, "L", printL, 2, 0, 0, 4, 1, 0, 1, 4, 1), ref(usedObjects + 1), []api.Cell{cell("L", ref(usedObjects+1)), cell("L", null)}},
		{join(1, "E", "E().", 2, 0, 0, 1, 0), null, []api.Cell{cell("E"), cell("E")}},
	} {
		h := used(t, zoo(t), 100)
		old := h.Cells()
		if v, at, e := take.Get(h, c.b, wide); v != c.want || at != 0 || e != api.OK {
			t.Errorf("Get(%q) = %v, %d, %d, want %v", c.b, v, at, e, c.want)
		}
		if !sameCells(h.Cells(), append(old, c.cells...)) || h.Left() != 100-occupied(c.cells) {
			t.Errorf("Get(%q): %v with %d left", c.b, h.Cells(), h.Left())
		}
	}
}

// P13.2: for Get, any other number of values than one is an error at the last byte, and the heap has no objects of theirs.
func TestOtherNumberOfValues(t *testing.T) {
	h := used(t, zoo(t), 100)
	objects := join(2, "E", "E().", "L", printL, 3, 0, 1, 1, 4, 2, 4, 1)
	for _, n := range []int{0, 2, 3, 63, 64} {
		for _, before := range [][]byte{join(0, 0), objects} {
			b := join(before, n, make([]byte, n))
			checkUnchanged(t, h, func() {
				if v, at, e := take.Get(h, b, wide); v != null || at != len(b)-1 || e != api.ErrTakeForm {
					t.Errorf("Get(%q) = %v, %d, %d, want %d", b, v, at, e, len(b)-1)
				}
			})
			if l, at, e := take.Some(used(t, zoo(t), 100), b, wide); len(l) != n || at != 0 || e != api.OK {
				t.Errorf("Some(%q) = %v, %d, %d", b, l, at, e)
			}
		}
	}
	b := join(objects, 2, 4, 0, 3, "the last one")
	checkUnchanged(t, h, func() {
		if v, at, e := take.Get(h, b, wide); v != null || at != len(b)-1 || e != api.ErrTakeForm {
			t.Errorf("Get(%q) = %v, %d, %d", b, v, at, e)
		}
	})
	// The errors of Some come first.
	checkError(t, h, join(objects, 2, 4, 0), wide, len(objects)+3, api.ErrTakeForm)
	checkError(t, h, join(objects, 0, 0, 0), wide, len(objects)+1, api.ErrTakeForm)
	checkError(t, h, join(0, 0, 2, 0, 4, 0), wide, 4, api.ErrTakeForm)
	checkError(t, h, join(0, 0, 0), api.Limits{Bytes: 2}, 0, api.ErrTakeMany)
}

// checkCopy checks that a value is copied behind the objects of a heap, and that nothing else changes.
func checkCopy(t *testing.T, from *heap.Heap, v api.Value, to *heap.Heap, limits api.Limits) {
	t.Helper()
	old, left := to.Cells(), to.Left()
	reached := len(graph.Reach(from, v))
	w, e := take.Copy(from, v, to, limits)
	if e != api.OK || !graph.Alike(from, v, to, w) || w.Sort == api.Ref && w.Ref != len(old) {
		t.Errorf("Copy(%v) = %v, %d in %s, from %s", v, w, e, short(to.Cells()), short(from.Cells()))
	}
	cells := to.Cells()
	if len(cells) != len(old)+reached || !sameCells(cells[:len(old)], old) || to.Left() != left-occupied(cells[len(old):]) || !to.Right() {
		t.Errorf("Copy(%v): %s became %s with %d left", v, short(old), short(cells), to.Left())
	}
}

func checkNoCopy(t *testing.T, from *heap.Heap, v api.Value, to *heap.Heap, limits api.Limits, want api.Errno) {
	t.Helper()
	checkUnchanged(t, to, func() {
		checkUnchanged(t, from, func() {
			if w, e := take.Copy(from, v, to, limits); w != null || e != want {
				t.Errorf("Copy(%v) with %v = %v, %d, want the error %d", v, limits, w, e, want)
			}
		})
	})
}

// full returns a heap with a value of each sort in its objects, of which six are reachable from the first one.
func full(t *testing.T) *heap.Heap {
	t.Helper()
	h := zooHeap(t, "M", "E", "Object[4]", "N", "V", "int[2]", "K", "L[1]", "Q")
	link(t, h, [3]int{0, 0, 2}, [3]int{0, 3, 1}, [3]int{0, 6, 0}, [3]int{2, 0, 3}, [3]int{2, 3, 2}, [3]int{2, 1, 4}, [3]int{3, 2, 5}, [3]int{4, 3, 1}, [3]int{6, 0, 8}, [3]int{6, 1, 8}, [3]int{6, 2, 7}, [3]int{7, 0, 8})
	set(t, h, 0, 5, num(7))
	set(t, h, 0, 4, text("s"))
	set(t, h, 4, 0, num(math.MinInt64))
	set(t, h, 4, 1, flag(1))
	set(t, h, 4, 2, text("é"))
	set(t, h, 5, 1, num(-1))
	return h
}

// P13.2: values of all sorts, into other heaps and into the same one.
func TestCopy(t *testing.T) {
	h := full(t)
	values := append(refs(0, 1, 2, 3, 4, 5, 6, 7, 8), null, num(0), num(-1), flag(0), flag(1), text(""), text("word"), text(strings.Repeat("x", api.MaxText)))
	for _, v := range values {
		checkCopy(t, h, v, used(t, zoo(t), 1000), wide)
		checkCopy(t, h, v, zooHeap(t), wide)
		checkCopy(t, h, v, h, wide)
	}
	checkCopy(t, h, ref(0), zooHeap(t), api.Limits{Objects: 6, Bytes: 999})
}

// P13.2: the errors of Put, and then those of Get.
func TestNoCopy(t *testing.T) {
	h, to := full(t), used(t, zoo(t), 100)
	for _, v := range []api.Value{ref(9), ref(-1), flag(2), {N: 1}, {Sort: 5}, {Sort: api.Ref, S: "a"}, text("\xff"), text(strings.Repeat("x", api.MaxText+1))} {
		checkNoCopy(t, h, v, to, api.Limits{}, api.ErrSendValue)
		checkNoCopy(t, h, v, h, wide, api.ErrSendValue)
	}
	checkNoCopy(t, h, ref(0), to, api.Limits{Objects: 5, Bytes: 9}, api.ErrSendMany)
	checkNoCopy(t, h, null, to, api.Limits{Objects: -1, Bytes: 99}, api.ErrSendMany)
	b, _ := send.Put(h, ref(0), wide)
	checkNoCopy(t, h, ref(0), to, api.Limits{Objects: 6, Bytes: len(b) - 1}, api.ErrSendLong)
	checkCopy(t, h, ref(0), used(t, zoo(t), 100), api.Limits{Objects: 6, Bytes: len(b)})
	checkNoCopy(t, h, null, to, api.Limits{Bytes: -1}, api.ErrSendLong)
	size := 0
	for _, n := range graph.Reach(h, ref(0)) {
		size += 1 + h.Size(n)
	}
	checkNoCopy(t, h, ref(0), used(t, zoo(t), size-1), wide, api.ErrTakeRoom)
	checkCopy(t, h, ref(0), used(t, zoo(t), size), wide)
	// Another layout, and a class that is not there or not instantiable.
	v := []api.Class{class("V", "n:int", "b:bool", "s:text", "o:Object")}
	for _, e := range [][]api.Class{{class("E", "x:int")}, {class("E Fault")}, {class("*E")}, nil} {
		checkNoCopy(t, h, ref(1), used(t, table(t, append(e, v...)...), 100), wide, api.ErrTakeKind)
		checkNoCopy(t, h, ref(4), used(t, table(t, append(e, v...)...), 100), wide, api.ErrTakeKind)
	}
	checkCopy(t, h, ref(4), used(t, table(t, append(v, class("E"))...), 100), wide)
	// What does not fit in another table: the layouts do not tell the interfaces of a class.
	classes := []api.Class{{Name: "I", Super: "Object", Interface: true, Abstract: true}, class("L", "next:L"), class("*D L"), class("Q D"), class("K", "i:I", "d:D", "l:L[]", "f:Fault", "o:Object[]")}
	checkNoCopy(t, h, ref(6), used(t, table(t, classes...), 100), wide, api.ErrTakeValue)
	classes[3].Like = []string{"I"}
	checkCopy(t, h, ref(6), used(t, table(t, classes...), 100), wide)
}

// P13.2: what Put accepts, but Get does not: a print that is too long, and more than 256 kinds.
func TestCopyOfTooMuch(t *testing.T) {
	classes, print := longPrint()
	long := filled(t, table(t, classes...), 20000, classes[len(classes)-1].Name)
	if b, e := send.Put(long, ref(0), wide); !strings.Contains(string(b), print) || e != api.OK {
		t.Error(len(b), e)
	}
	checkNoCopy(t, long, ref(0), long, wide, api.ErrTakeForm)
	classes = nil
	names := []string{"Object[0]"}
	for n := range 256 {
		name := "C" + strconv.Itoa(n)
		classes, names = append(classes, class(name)), append(names, name)
	}
	h := filled(t, table(t, classes...), 20000, names...)
	for _, c := range []struct {
		n int
		e api.Errno
	}{{255, api.OK}, {256, api.ErrTakeForm}} {
		array, _ := h.Array("Object", int64(c.n))
		for at := range c.n {
			set(t, h, array, int64(at), ref(at+1))
		}
		if c.e != api.OK {
			checkNoCopy(t, h, ref(array), h, wide, c.e)
			continue
		}
		checkCopy(t, h, ref(array), filled(t, table(t, classes...), 600), wide)
	}
}
