package take_test

import (
	"math"
	"runtime"
	"slices"
	"strings"
	"testing"

	"squinch/api"
	"squinch/graph"
	"squinch/heap"
	"squinch/send"
	"squinch/take"
)

// great returns a heap with the greatest room.
func great(t *testing.T) *heap.Heap { return filled(t, zoo(t), api.MaxRoom) }

// P1, P13.3: a chain as long as a heap may have it.
func TestLongChain(t *testing.T) {
	h := great(t)
	n := api.MaxRoom / 2
	for range n {
		h.Object("L")
	}
	for k := range n - 1 {
		set(t, h, k, 0, ref(k+1))
	}
	b, e := send.Put(h, ref(0), wide)
	if e != api.OK {
		t.Fatal(e)
	}
	g := great(t)
	if v, at, e := take.Get(g, b, api.Limits{Objects: n, Bytes: len(b)}); v != ref(0) || at != 0 || e != api.OK || !sameCells(g.Cells(), h.Cells()) {
		t.Errorf("%v, %d, %d", v, at, e)
	}
	checkError(t, great(t), b, api.Limits{Objects: n - 1, Bytes: len(b)}, len(join(1, "L", printL)), api.ErrTakeMany)
	checkError(t, great(t), b[:len(b)-1], wide, len(b)-2, api.ErrTakeForm)
	small := filled(t, zoo(t), api.MaxRoom-1)
	checkError(t, small, b, wide, len(join(1, "L", printL, n))+n-1, api.ErrTakeRoom)
}

// P1: an array as great as a heap may have it, full of references.
func TestGreatArray(t *testing.T) {
	n := api.MaxRoom - 2
	begin := join(2, "Object[]", "", "E", "E().", 2, 1, 0, n)
	b := join(begin, slices.Repeat([]byte{4, 0}, n), 1, 4, 1)
	h := great(t)
	if v, at, e := take.Get(h, b, wide); v != ref(1) || at != 0 || e != api.OK || h.Left() != 0 || h.Size(1) != n || len(graph.Reach(h, ref(1))) != 2 {
		t.Errorf("%v, %d, %d", v, at, e)
	}
	checkError(t, great(t), b[:len(begin)+n+1], wide, len(begin)+n, api.ErrTakeForm)
}

// allocated returns how many bytes are allocated by a call.
func allocated(f func()) uint64 {
	var before, after runtime.MemStats
	runtime.ReadMemStats(&before)
	f()
	runtime.ReadMemStats(&after)
	return after.TotalAlloc - before.TotalAlloc
}

// P1: nothing is made in advance for great numbers that are not followed by as many items.
func TestFewBytes(t *testing.T) {
	h := used(t, zoo(t), 1000)
	array := join(1, "text[]", "")
	for _, c := range []struct {
		b  []byte
		at int
		e  api.Errno
	}{
		{join(0, math.MaxInt64), 10, api.ErrTakeForm},
		{join(0, 1<<30), 6, api.ErrTakeForm},
		{join(array, 1<<40, make([]byte, 10)), len(array) + 16, api.ErrTakeForm},
		{join(array, 1, 0, 1<<30), len(array) + 1, api.ErrTakeRoom},
		{join(array, 1, 0, math.MaxInt64), len(array) + 1, api.ErrTakeRoom},
		{join(256), 2, api.ErrTakeForm},
		{join(0, 0, 64), 3, api.ErrTakeForm},
		{join(0, 0, 1, 3, math.MaxInt64), 3, api.ErrTakeForm},
	} {
		if a := allocated(func() { take.Some(h, c.b, wide) }); a > 1<<20 {
			t.Errorf("%d bytes allocated for %q", a, c.b)
		}
		checkError(t, h, c.b, wide, c.at, c.e)
	}
}

// P1: a call with an error leaves no room occupied, however often it is called.
func TestManyErrors(t *testing.T) {
	h := used(t, zoo(t), 1000)
	b := join(2, "L", printL, "int[]", "", 3, 0, 1, 900, 0, 4, 0)
	for range 1000 {
		if _, at, e := take.Some(h, b, wide); at != len(b) || e != api.ErrTakeForm || h.Left() != 1000 || h.Len() != usedObjects {
			t.Fatal(at, e, h.Left(), h.Len())
		}
	}
}

// P1: the bytes stay as they are, also those behind them, and nothing of them is kept; what is returned may be changed.
func TestMemory(t *testing.T) {
	word := strings.Repeat("word", 10)
	b := join(2, "text[]", "", "ZeroFault", "ZeroFault(Fault() what:text.).", 2, 0, 1, 1, 3, word, 3, word, 3, 3, word, 4, 0, 4, 1)
	data := append(slices.Clone(b), "behind"...)
	h := used(t, zoo(t), 100)
	l, _, e := take.Some(h, data[:len(b)], wide)
	if e != api.OK || string(data) != string(b)+"behind" {
		t.Errorf("%q, %d", data, e)
	}
	for i := range data {
		data[i] = 'x'
	}
	want := []api.Value{text(word), ref(usedObjects), ref(usedObjects + 1)}
	old := h.Cells()
	check := func() {
		t.Helper()
		x, _ := h.Get(usedObjects, 0)
		y, _ := h.Get(usedObjects+1, 0)
		if x != text(word) || y != text(word) || h.Kind(usedObjects) != "text[]" || h.Kind(usedObjects+1) != "ZeroFault" || !sameCells(h.Cells(), old) {
			t.Errorf("%v, %v of %q, %q", x, y, h.Kind(usedObjects), h.Kind(usedObjects+1))
		}
	}
	check()
	if !slices.Equal(l, want) {
		t.Errorf("%v, want %v", l, want)
	}
	clear(l[:cap(l)])
	check()
	// The same bytes give the same again.
	m, _, e := take.Some(h, b, wide)
	if e != api.OK || !slices.Equal(m, []api.Value{text(word), ref(usedObjects + 2), ref(usedObjects + 3)}) {
		t.Errorf("%v, %d", m, e)
	}
}

// P1: from one heap to another, neither keeps anything of the other one.
func TestCopiesAreApart(t *testing.T) {
	h, g := full(t), used(t, zoo(t), 1000)
	w, e := take.Copy(h, ref(0), g, wide)
	before := g.Cells()
	for n := range h.Len() {
		for at := range h.Size(n) {
			for _, v := range []api.Value{null, num(99), flag(0), text("other"), ref(n)} {
				h.Set(n, int64(at), v)
			}
		}
	}
	if e != api.OK || !sameCells(g.Cells(), before) {
		t.Errorf("%d: %s became %s", e, short(before), short(g.Cells()))
	}
	checkUnchanged(t, h, func() { g.Cut(w.Ref) })
}
