package take_test

import (
	"math"
	"slices"
	"strings"
	"testing"

	"squinch/api"
	"squinch/heap"
	"squinch/take"
)

// checkSome checks the values of an encoding in a heap that is not empty, the objects that they add to it, and that nothing else changes. References are numbered as in the encoding, from 0 on.
func checkSome(t *testing.T, b []byte, values []api.Value, cells ...api.Cell) {
	t.Helper()
	for _, left := range []int{20000, occupied(cells)} {
		h := used(t, zoo(t), left)
		checkSomeIn(t, h, b, wide, values, cells)
		// A second time, behind the objects of the first one.
		if left > occupied(cells) {
			checkSomeIn(t, h, b, api.Limits{Objects: len(cells), Bytes: len(b)}, values, cells)
		}
	}
}

func occupied(cells []api.Cell) int {
	n := 0
	for _, c := range cells {
		n += 1 + len(c.Values)
	}
	return n
}

func checkSomeIn(t *testing.T, h *heap.Heap, b []byte, limits api.Limits, values []api.Value, cells []api.Cell) {
	t.Helper()
	left, want := h.Left(), h.Cells()
	first := len(want)
	move := func(l []api.Value) []api.Value {
		l = slices.Clone(l)
		for i := range l {
			if l[i].Sort == api.Ref {
				l[i].Ref += first
			}
		}
		return l
	}
	got, at, e := take.Some(h, b, limits)
	if !slices.Equal(got, move(values)) || at != 0 || e != api.OK {
		t.Errorf("Some(%.200q) = %s, %d, %d, want %s", b, short(got), at, e, short(move(values)))
	}
	for _, c := range cells {
		want = append(want, api.Cell{Kind: c.Kind, Values: move(c.Values)})
	}
	if !sameCells(h.Cells(), want) || h.Left() != left-occupied(cells) || !h.Right() {
		t.Errorf("Some(%.200q): %s with %d left, want %s with %d", b, short(h.Cells()), h.Left(), short(want), left-occupied(cells))
	}
}

func cell(kind string, l ...api.Value) api.Cell { return api.Cell{Kind: kind, Values: l} }

// P13.1: the example of the chapter, and all sorts of values that are no references.
func TestPlain(t *testing.T) {
	for _, c := range []struct {
		b    string
		want api.Value
	}{
		{"\x01\x0a", num(5)},
		{"\x00", null},
		{"\x01\x00", num(0)},
		{"\x01\x01", num(-1)},
		{"\x01\x02", num(1)},
		{"\x01\xd7\x04", num(-300)},
		{"\x01\xff\xff\xff\xff\xff\xff\xff\xff\xff\x01", num(math.MinInt64)},
		{"\x01\xfe\xff\xff\xff\xff\xff\xff\xff\xff\x01", num(math.MaxInt64)},
		{"\x02\x00", flag(0)},
		{"\x02\x01", flag(1)},
		{"\x03\x00", text("")},
		{"\x03\x01\x00", text("\x00")},
		{"\x03\x02é", text("é")},
		{"\x03\x04\xf4\x8f\xbf\xbf", text("\U0010ffff")},
		{"\x03\x80\x20" + strings.Repeat("x", api.MaxText), text(strings.Repeat("x", api.MaxText))},
	} {
		checkSome(t, []byte("\x00\x00\x01"+c.b), []api.Value{c.want})
		checkSome(t, []byte("\x00\x00\x02"+c.b+c.b), []api.Value{c.want, c.want})
		checkSome(t, []byte("\x00\x00\x03\x00"+c.b+"\x02\x01"), []api.Value{null, c.want, flag(1)})
	}
	checkSome(t, []byte("\x00\x00\x00"), nil)
}

// P13.1: from 0 to 64 values.
func TestNumberOfValues(t *testing.T) {
	for n := range 65 {
		checkSome(t, join(0, 0, n, make([]byte, n)), make([]api.Value, n))
		l := slices.Repeat(refs(1, 0), 32)[:n]
		checkSome(t, join(1, "E", "E().", 2, 0, 0, n, slices.Repeat([]byte{4, 1, 4, 0}, 32)[:2*n]), l, cell("E"), cell("E"))
	}
}

// P13.1: objects of each kind, alone.
func TestObjects(t *testing.T) {
	fault := cell("ZeroFault", text("by 0"))
	for _, c := range []struct {
		b    []byte
		want api.Cell
	}{
		{join("N", printN, 1, 0, 0, 1, 0, 0), cell("N", null, num(0), null)},
		{join("M", printM, 1, 0, 0, 1, 5, 0, 3, "é", 0), cell("M", null, num(-3), null, null, text("é"), num(0), null, null)},
		{join("L", printL, 1, 0, 0), cell("L", null)},
		{join("V", printV, 1, 0, 1, 3, 2, 1, 3, "a", 0), cell("V", num(-2), flag(1), text("a"), null)},
		{join("O", "O().", 1, 0), cell("O", null, num(0), text(""), flag(0))},
		{join("P", printP, 1, 0, 2, 1), cell("P", null, num(0), text(""), flag(0), flag(1))},
		{join("E", "E().", 1, 0), cell("E")},
		{join("J", "J().", 1, 0), cell("J")},
		{join("Q", printQ, 1, 0, 0), cell("Q", null)},
		{join("K", printK, 1, 0, 0, 0, 0, 0, 0), cell("K", null, null, null, null, null)},
		{join("Object", "", 1, 0), cell("Object")},
		{join("Fault", "Fault() what:text.", 1, 0, 3, "what"), cell("Fault", text("what"))},
		{join("ZeroFault", "ZeroFault(Fault() what:text.).", 1, 0, 3, "by 0"), fault},
		{join("int[]", "", 1, 0, 0), cell("int[]")},
		{join("int[]", "", 1, 0, 3, 1, 2, 1, 4, 1, 6), cell("int[]", num(1), num(2), num(3))},
		{join("bool[]", "", 1, 0, 2, 2, 1, 2, 0), cell("bool[]", flag(1), flag(0))},
		{join("text[]", "", 1, 0, 2, 3, "", 3, "b"), cell("text[]", text(""), text("b"))},
		{join("N[]", "", 1, 0, 2, 0, 0), cell("N[]", null, null)},
		{join("I[]", "", 1, 0, 1, 0), cell("I[]", null)},
		{join("D[][]", "", 1, 0, 1, 0), cell("D[][]", null)},
		{join("int[][][]", "", 1, 0, 3, 0, 0, 0), cell("int[][][]", null, null, null)},
	} {
		checkSome(t, join(1, c.b, 1, 4, 0), refs(0), c.want)
	}
}

// P13.1: what is not sent has no place in the bytes, and has its initial value, whatever its kind is.
func TestTransient(t *testing.T) {
	b := join(2, "M", printM, "E", "E().", 3, 0, 0, 1, 4, 1, 1, 8, 4, 2, 3, "s", 4, 1, 4, 2, 1, 9, 0, 3, "", 4, 1, 1, 4, 1)
	checkSome(t, b, refs(1),
		cell("M", ref(1), num(4), ref(2), null, text("s"), num(0), ref(1), null),
		cell("M", ref(2), num(-5), null, null, text(""), num(0), ref(1), null),
		cell("E"))
}

// P13.1: objects refer to any of all objects, to those before them and behind them, to themselves, and not to those that were in the heap before.
func TestReferences(t *testing.T) {
	b := join(1, "L", printL, 4, 0, 0, 0, 0, 4, 3, 4, 1, 4, 0, 4, 0, 3, 4, 3, 0, 4, 2)
	checkSome(t, b, []api.Value{ref(3), null, ref(2)}, cell("L", ref(3)), cell("L", ref(1)), cell("L", ref(0)), cell("L", ref(0)))
	b = join(1, "Object[]", "", 1, 0, 3, 4, 0, 0, 4, 0, 1, 4, 0)
	checkSome(t, b, refs(0), cell("Object[]", ref(0), null, ref(0)))
}

// P13.1: kinds and objects may be in another order than that of chapter 12, objects need not be reachable, and kinds need not be used.
func TestAnyOrder(t *testing.T) {
	l, e, array := join("L", printL), join("E", "E()."), join("L[]", "")
	checkSome(t, join(3, e, l, array, 2, 1, 1, 0, 4, 0, 1, 4, 1), refs(1), cell("L", null), cell("L", ref(0)))
	checkSome(t, join(3, array, e, l, 2, 2, 0, 1, 0, 4, 0, 1, 4, 1), refs(1), cell("L", null), cell("L[]", ref(0)))
	checkSome(t, join(2, e, l, 3, 0, 1, 0, 0, 1, 0), []api.Value{null}, cell("E"), cell("L", null), cell("E"))
	checkSome(t, join(2, e, l, 1, 1, 4, 0, 0), nil, cell("L", ref(0)))
	checkSome(t, join(3, l, array, e, 0, 1, 1, 4), []api.Value{num(2)})
	checkSome(t, join(1, "ZeroFault", "ZeroFault(Fault() what:text.).", 0, 0), nil)
}

// P13.1: values of a subkind of the kind of their slot.
func TestFitting(t *testing.T) {
	kinds := join(8, "K", printK, "J", "J().", "Q", printQ, "L[]", "", "ZeroFault", "ZeroFault(Fault() what:text.).", "Object[]", "", "int[][]", "", "int[]", "")
	heads := join(8, 0, 1, 2, 3, 2, 4, 5, 3, 6, 1, 7, 0)
	slots := join(4, 1, 4, 2, 4, 3, 4, 4, 4, 5, 4, 2, 4, 2, 0, 3, "", 4, 6, 4, 3, 4, 0, 4, 7)
	checkSome(t, join(kinds, heads, slots, 1, 4, 0), refs(0),
		cell("K", ref(1), ref(2), ref(3), ref(4), ref(5)), cell("J"), cell("Q", ref(2)), cell("L[]", ref(2), null),
		cell("ZeroFault", text("")), cell("Object[]", ref(6), ref(3), ref(0)), cell("int[][]", ref(7)), cell("int[]"))
}

// P13.1: 256 kinds, and numbers of more than one byte: of objects, of elements, of kinds and of references.
func TestGreatNumbers(t *testing.T) {
	var names []string
	var classes []api.Class
	b := join(256)
	for n := range 256 {
		name := "C" + strings.Repeat("x", n/16) + string(rune('a'+n%16))
		names, classes = append(names, name), append(classes, class(name))
		b = append(b, join(name, name+"().")...)
	}
	empty := filled(t, table(t, classes...), 0)
	checkSomeIn(t, empty, join(b, 0, 0), wide, nil, nil)
	b = b[:len(b)-len(join(names[255], names[255]+"()."))]
	b = join(b, "Object[]", "", 301, 255, 400)
	var elements []byte
	array := cell("Object[]", make([]api.Value, 400)...)
	cells := []api.Cell{array}
	for n := range 300 {
		b = append(b, join(n%255)...)
		elements = append(elements, join(4, 300-n)...)
		array.Values[n] = ref(300 - n)
		cells = append(cells, cell(names[n%255]))
	}
	b = join(b, elements, make([]byte, 100), 3, 4, 0, 4, 128, 4, 300)
	h := filled(t, table(t, classes...), 702, "Object[0]")
	checkSomeIn(t, h, b, api.Limits{Objects: 301, Bytes: len(b)}, refs(0, 128, 300), cells)
}
