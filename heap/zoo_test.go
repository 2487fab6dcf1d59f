package heap_test

import (
	"math"
	"slices"
	"strings"
	"testing"

	"squinch/api"
	"squinch/heap"
	"squinch/hier"
)

var null = api.Value{}

func num(n int64) api.Value { return api.Value{Sort: api.Int, N: n} }

func flag(n int64) api.Value { return api.Value{Sort: api.Bool, N: n} }

func text(s string) api.Value { return api.Value{Sort: api.Text, S: s} }

func ref(n int) api.Value { return api.Value{Sort: api.Ref, Ref: n} }

// fields returns fields from texts such as "x:int"; "x:int transient" is Transient.
func fields(l ...string) []api.Field {
	var f []api.Field
	for _, s := range l {
		s, transient := strings.CutSuffix(s, " transient")
		name, kind, _ := strings.Cut(s, ":")
		f = append(f, api.Field{Name: name, Kind: kind, Transient: transient})
	}
	return f
}

// zoo returns the table of classes of which B and C are derived from the abstract A, D from B, I is an interface of B, J of D, and E has nothing.
func zoo(t testing.TB) *hier.Table {
	t.Helper()
	h, at, e := hier.New([]api.Class{
		{Name: "D", Super: "B", Like: []string{"J"}, Final: true, Fields: fields("ok:bool", "any:Object transient")},
		{Name: "B", Super: "A", Like: []string{"I"}, Fields: fields("list:A[]", "s:text transient")},
		{Name: "C", Super: "A"},
		{Name: "A", Super: "Object", Abstract: true, Fields: fields("x:int", "next:A")},
		{Name: "T", Super: "B", Abstract: true},
		{Name: "I", Super: "Object", Interface: true, Abstract: true},
		{Name: "J", Super: "Object", Like: []string{"I"}, Interface: true, Abstract: true},
		{Name: "E", Super: "Object"},
		{Name: "Bad", Super: "Fault", Fields: fields("why:text[][]", "who:I", "in:int[]")},
	})
	if e != api.OK {
		t.Fatal(at, e)
	}
	return h
}

// layouts are the kinds of the fields of all instantiable classes of the zoo.
var layouts = map[string]string{
	"Object": "", "E": "", "Fault": "text", "NullFault": "text", "IndexFault": "text", "CastFault": "text", "ZeroFault": "text", "RoomFault": "text", "CallFault": "text",
	"B": "int A A[] text", "C": "int A", "D": "int A A[] text bool Object", "Bad": "text text[][] I int[]",
}

// kinds are some existing ones of the zoo.
func kinds(t testing.TB) []string {
	return append(zoo(t).Names(), strings.Fields("int bool text null A[] A[][] B[] D[] I[] E[][][] Object[] int[] int[][] int[][][] bool[] text[] text[][]")...)
}

// strange are strings that are no existing kinds of the zoo.
func strange() []string {
	return []string{"", "Z", "Z[]", "a", "Null", "Int", "null[]", "A[][][][]", "int[][][][]", "[]", "A[", "A]", "A []", " A", "A ", "A.x", "x", "ok", "\xff", "A\xff", "Object\x00", strings.Repeat("A", 1<<16), "A" + strings.Repeat("[]", 1<<16)}
}

// numbers are great and small ones.
func numbers() []int64 {
	return []int64{0, 1, 2, 3, -1, -2, 63, 64, 1 << 20, 1<<20 + 1, 1 << 31, 1 << 32, -1 << 32, 1<<32 + 1, 1 << 62, math.MaxInt32, math.MinInt32, math.MaxInt64, math.MinInt64, math.MaxInt64 - 1, math.MinInt64 + 1}
}

func empty(t testing.TB, room int) *heap.Heap {
	t.Helper()
	h, e := heap.New(zoo(t), room)
	if e != api.OK {
		t.Fatal(e)
	}
	return h
}

// filled returns a heap with the given room and objects of these kinds, all of them with their initial values; arrays have two elements.
func filled(t testing.TB, room int, kinds ...string) *heap.Heap {
	t.Helper()
	h := empty(t, room)
	for i, kind := range kinds {
		create := h.Object
		elem, isArray := strings.CutSuffix(kind, "[]")
		if isArray {
			create = func(string) (int, api.Errno) { return h.Array(elem, 2) }
		}
		if n, e := create(kind); n != i || e != api.OK || h.Kind(i) != kind {
			t.Fatalf("%s: %d, %d, %q", kind, n, e, h.Kind(i))
		}
	}
	return h
}

func set(t testing.TB, h *heap.Heap, ref int, at int64, v api.Value) {
	t.Helper()
	if e := h.Set(ref, at, v); e != api.OK {
		t.Errorf("Set(%d, %d, %v): %d", ref, at, v, e)
	}
}

func sameCells(a, b []api.Cell) bool {
	return slices.EqualFunc(a, b, func(x, y api.Cell) bool { return x.Kind == y.Kind && slices.Equal(x.Values, y.Values) })
}

// unchanged calls f and checks that the heap is the same before and after.
func unchanged(t *testing.T, h *heap.Heap, f func()) {
	t.Helper()
	n, left, cells := h.Len(), h.Left(), h.Cells()
	f()
	if h.Len() != n || h.Left() != left || !sameCells(h.Cells(), cells) {
		t.Errorf("%d objects, %d left, %.200v became %d, %d, %.200v", n, left, cells, h.Len(), h.Left(), h.Cells())
	}
}
