package take_test

import (
	"math"
	"slices"
	"strings"
	"testing"

	"squinch/api"
	"squinch/heap"
	"squinch/take"
)

// checkError checks that there is an error, and that nothing else comes of it.
func checkError(t *testing.T, h *heap.Heap, b []byte, limits api.Limits, at int, e api.Errno) {
	t.Helper()
	checkUnchanged(t, h, func() {
		if l, i, f := take.Some(h, b, limits); len(l) != 0 || i != at || f != e {
			t.Errorf("Some(%.200q) with %v = %v, %d, %d, want %d, %d", b, limits, l, i, f, at, e)
		}
		if v, i, f := take.Get(h, b, limits); v != null || i != at || f != e {
			t.Errorf("Get(%.200q) with %v = %v, %d, %d, want %d, %d", b, limits, v, i, f, at, e)
		}
	})
}

// checkItem checks that an item behind other ones has an error, in a heap with this room left, whatever follows it.
func checkItem(t *testing.T, left int, before, item []byte, e api.Errno) {
	t.Helper()
	h := used(t, zoo(t), left)
	for _, rest := range []string{"", "\x00", "\x00\x00\x00\x00\x00\x00", "\x01\x01\x01\x01", "\x80", "\xff\xff\xff\xff\xff\xff\xff\xff\xff\xff\xff"} {
		checkError(t, h, join(before, item, []byte(rest)), wide, len(before), e)
	}
}

// checkForm checks that an item that cannot be read to its end has ErrTakeForm.
func checkForm(t *testing.T, before, item []byte) {
	t.Helper()
	checkError(t, used(t, zoo(t), 100), join(before, item), wide, len(before), api.ErrTakeForm)
}

// P13.1: more bytes than the limit have an error before all others, and just as many have not.
func TestTooManyBytes(t *testing.T) {
	h := used(t, zoo(t), 100)
	whole := join(2, "N", printN, "E", "E().", 2, 0, 1, 4, 1, 1, 7, 0, 1, 4, 0)
	for most := range whole {
		checkError(t, h, whole, api.Limits{Objects: 9, Bytes: most}, 0, api.ErrTakeMany)
		checkError(t, h, whole[:most+1], api.Limits{Objects: -1, Bytes: most}, 0, api.ErrTakeMany)
	}
	for _, most := range []int{-1, -2, math.MinInt32, math.MinInt64} {
		checkError(t, h, whole, api.Limits{Objects: 9, Bytes: most}, 0, api.ErrTakeMany)
		checkError(t, h, nil, api.Limits{Objects: 9, Bytes: most}, 0, api.ErrTakeMany)
	}
	checkError(t, h, nil, api.Limits{}, 0, api.ErrTakeForm)
	checkError(t, h, []byte{255}, api.Limits{}, 0, api.ErrTakeMany)
	checkError(t, h, []byte{255}, api.Limits{Bytes: 1}, 0, api.ErrTakeForm)
	for _, most := range []int{len(whole), len(whole) + 1, math.MaxInt64} {
		if v, at, e := take.Get(h, whole, api.Limits{Objects: 2, Bytes: most}); v.Sort != api.Ref || at != 0 || e != api.OK {
			t.Errorf("%d bytes: %v, %d, %d", most, v, at, e)
		}
	}
}

// P13.1: all numbers that cannot be read, where there is one.
func TestBrokenNumbers(t *testing.T) {
	array := join(1, "int[]", "")
	for _, b := range broken() {
		checkForm(t, nil, b)
		checkForm(t, []byte{1}, b)
		checkForm(t, []byte{1}, join("E", b))
		checkForm(t, []byte{0}, b)
		checkForm(t, join(array, 1), b)
		checkForm(t, join(array, 1), join(0, b))
		checkForm(t, join(array, 1, 0, 1), b)
		checkForm(t, join(array, 1, 0, 1), join(1, b))
		checkForm(t, join(array, 1, 0, 1), join(3, b))
		checkForm(t, join(array, 1, 0, 1), join(4, b))
		checkForm(t, []byte{0, 0}, b)
		checkForm(t, []byte{0, 0, 1}, b)
		checkForm(t, []byte{0, 0, 1}, join(1, b))
		checkForm(t, []byte{0, 0, 1}, join(3, b))
		checkForm(t, []byte{0, 0, 1}, join(4, b))
	}
}

// P13.1: more than 256 kinds are too many, however many bytes follow.
func TestNumberOfKinds(t *testing.T) {
	for _, n := range []int{257, 258, 512, 1 << 16, 1 << 31, 1 << 32, 1<<32 + 1, math.MaxInt64, math.MinInt64, -1} {
		checkItem(t, 100, nil, join(n), api.ErrTakeForm)
	}
	h := used(t, zoo(t), 100)
	for _, n := range []int{1, 2, 3, 255, 256} {
		// The first kind lacks.
		checkError(t, h, join(n), wide, len(join(n)), api.ErrTakeForm)
	}
}

// P13.1: a kind is an array kind or an instantiable class, has its print, and is there once.
func TestErrTakeKind(t *testing.T) {
	e, array := join("E", "E()."), join("int[]", "")
	for _, item := range [][]byte{
		join("", ""), join("Z", ""), join("Z", "Z()."), join("e", ""), join("E ", "E()."), join("E\x00", "E()."),
		join("int", ""), join("bool", ""), join("text", ""), join("null", ""), join("void", ""), join("any", ""),
		join("I", ""), join("I", "I()."), join("D", "D(L() next:L.)."), join("D", ""),
		join("Z[]", ""), join("z[]", ""), join("null[]", ""), join("[]", ""), join("int[][][][]", ""), join("E[]]", ""), join("E[ ]", ""), join("E[", ""), join("E[]E", ""), join(strings.Repeat("E", 33), ""), join(strings.Repeat("E[]", 2), ""),
		join("int[]", "int[]"), join("E[]", "E()."), join("E[]", "E[]()."), join("E[]", " "), join("int[][]", "\x00"),
		join("E", ""), join("E", "E()"), join("E", "E(). "), join("E", "e()."), join("E", "J()."), join("E", "E"), join("Object", "Object"), join("Object", "Object()."), join("Object", " "),
		join("N", "N() a:Object x:int."), join("N", "N() a:Object b:Object x:int."), join("N", "N() a:Object x:int b:Object c:int."), join("N", "N() a:Object x:bool b:Object."), join("N", "N() A:Object x:int b:Object."),
		join("M", printN), join("M", "M() a:Object x:int b:Object s:text c:M."), join("M", "M(N() a:Object x:int b:Object.) -t:Object s:text -u:int c:M -v:Object[]."), join("M", "M(N().) s:text c:M."), join("M", "M(N() a:Object x:int b:Object.) t:Object s:text u:int c:M v:Object[]."),
		join("O", "O() t:Object x:int s:text b:bool."), join("P", "P() ok:bool."), join("Q", "Q(D(L() next:L.).). "), join("Q", "Q(D(L() next:L.) I)."), join("J", "J(I)."),
	} {
		checkItem(t, 100, join(1), item, api.ErrTakeKind)
		checkItem(t, 100, join(3, e, array), item, api.ErrTakeKind)
	}
	for _, again := range [][]byte{e, array} {
		checkItem(t, 100, join(3, e, array), again, api.ErrTakeKind)
		checkItem(t, 100, join(4, e, array, "N", printN), again, api.ErrTakeKind)
	}
	// The same kind with another print.
	checkItem(t, 100, join(3, e, array), join("E", ""), api.ErrTakeKind)
	checkItem(t, 100, join(3, e, array), join("int[]", "int[]"), api.ErrTakeKind)
}

// texts are encodings that no string has, but for those of which the length has an error.
func texts() [][]byte {
	return [][]byte{
		join(1), join(3, []byte("ab")), join(4096, []byte(strings.Repeat("a", 4095))), join(strings.Repeat("a", 4097)), join(4097), join(1 << 32), join(math.MaxInt64), join(-1),
		join("\xff"), join("a\xc3"), join("\xed\xa0\x80"), join("\xc0\x80"), join("\xf4\x90\x80\x80"), join("é"[:1]),
	}
}

// P13.1: strings that cannot be read, where there is one; in a print, the kind is where the item with the error begins.
func TestBrokenTexts(t *testing.T) {
	e := join("E", "E().")
	for _, b := range texts() {
		checkForm(t, join(1), b)
		checkForm(t, join(2, e), b)
		checkForm(t, join(1), join("N", b))
		checkForm(t, join(2, e), join("N", b))
		// An error of the reader comes before those of the kind.
		checkForm(t, join(2, e), join("E", b))
		checkForm(t, join(2, e), join("Z", b))
		checkForm(t, join(2, e), join("D", b))
		checkForm(t, join(0, 0, 1), join(3, b))
		checkForm(t, join(1, "text[]", "", 1, 0, 1), join(3, b))
		checkForm(t, join(1, "int[]", "", 1, 0, 1), join(3, b))
	}
}

// P13.1: a print that is too long for a text cannot be taken, though it is that of the class.
func TestLongPrint(t *testing.T) {
	classes, print := longPrint()
	h := used(t, table(t, classes...), 20000)
	name := classes[len(classes)-1].Name
	checkError(t, h, join(1, name, print, 0, 1, 0), wide, 1, api.ErrTakeForm)
	c := class(classes[3].Name)
	if _, _, e := take.Get(h, join(1, c.Name, h.Table().Print(c.Name), 0, 1, 0), wide); e != api.OK {
		t.Error(e)
	}
}

// longPrint returns a line of classes, and the print of the last one, which is longer than a text may be.
func longPrint() ([]api.Class, string) {
	var classes []api.Class
	print, super := "", "Object"
	for n := range 10 {
		c := class("C" + string(rune('0'+n)) + " " + super)
		print = c.Name + "(" + print + ")"
		for k := range 30 {
			f := api.Field{Name: strings.Repeat("f", 20) + string(rune('a'+n)) + string(rune('a'+k/6)) + string(rune('a'+k%6)), Kind: "bool"}
			c.Fields = append(c.Fields, f)
			print += " " + f.Name + ":bool"
		}
		print += "."
		classes, super = append(classes, c), c.Name
	}
	return classes, print
}

// P13.1: more objects than the limit are too many, however many bytes follow; below 0, it counts as 0.
func TestTooManyObjects(t *testing.T) {
	h := used(t, zoo(t), 100)
	e := join(1, "E", "E().")
	for _, most := range []int{0, 1, 2, 3, 7, -1, -2, math.MinInt32, math.MinInt64} {
		limits, n := api.Limits{Objects: most, Bytes: 999}, max(most, 0)
		for _, many := range []int{n + 1, n + 2, 1 << 20, 1 << 32, 1<<32 + 1, math.MaxInt64, math.MinInt64, -1} {
			checkError(t, h, join(e, many), limits, len(e), api.ErrTakeMany)
			checkError(t, h, join(e, many, make([]byte, 40)), limits, len(e), api.ErrTakeMany)
			checkError(t, h, join(0, many, 0, 0), limits, 1, api.ErrTakeMany)
		}
		for _, b := range broken() {
			checkError(t, h, join(e, b), limits, len(e), api.ErrTakeForm)
		}
		b := join(e, n, make([]byte, n), 1, 0)
		if v, at, e := take.Get(h, b, limits); v != null || at != 0 || e != api.OK {
			t.Errorf("%d objects: %v, %d, %d", n, v, at, e)
		}
	}
	for _, n := range []int{-1, math.MinInt64} {
		// As an unsigned number, it is greater than the greatest limit.
		checkError(t, h, join(e, n), wide, len(e), api.ErrTakeMany)
	}
	b := join(e, math.MaxInt64)
	checkError(t, h, b, wide, len(b), api.ErrTakeForm)
	checkError(t, h, join(b, make([]byte, 5)), wide, len(b)+5, api.ErrTakeForm)
}

// P13.1: an object of no kind.
func TestObjectOfNoKind(t *testing.T) {
	for n, b := range [][]byte{join(0), join(1, "E", "E()."), join(2, "E", "E().", "int[]", "")} {
		for _, index := range []int{n, n + 1, 255, 256, 1 << 32, 1<<32 + 1, math.MaxInt64, math.MinInt64, -1} {
			checkItem(t, 100, join(b, 1), join(index), api.ErrTakeForm)
			checkItem(t, 0, join(b, 1), join(index), api.ErrTakeForm)
			if n > 0 {
				checkItem(t, 100, join(b, 3, 0, 0), join(index), api.ErrTakeForm)
			}
		}
	}
}

// P13.1: an object for which there is too little room, however many bytes follow, and the greatest one for which there is enough.
func TestErrTakeRoom(t *testing.T) {
	kinds := join(6, "N", printN, "E", "E().", "int[]", "", "O", "O().", "Fault", "Fault() what:text.", "Object[][]", "")
	for _, c := range []struct {
		before []byte // the number of objects, and those before the one that is meant
		needs  int
		item   []byte
		size   int
	}{
		{join(1), 0, join(0), 4}, {join(1), 0, join(1), 1}, {join(1), 0, join(3), 5}, {join(1), 0, join(4), 2},
		{join(1), 0, join(2, 0), 1}, {join(1), 0, join(2, 1), 2}, {join(1), 0, join(2, 30), 31}, {join(1), 0, join(5, 300), 301},
		{join(2, 0), 4, join(0), 4}, {join(3, 0, 1), 5, join(1), 1}, {join(3, 2, 3, 2, 0), 5, join(2, 2), 3}, {join(4, 1, 1, 4), 4, join(0), 4},
	} {
		b := join(kinds, c.before)
		for left := c.needs; left < c.needs+c.size; left++ {
			checkItem(t, left, b, c.item, api.ErrTakeRoom)
		}
		// There is no error in the item if there is enough room: what follows it lacks.
		whole := join(b, c.item)
		checkError(t, used(t, zoo(t), c.needs+c.size), whole, wide, len(whole), api.ErrTakeForm)
	}
	for _, n := range []int{100, 101, 1 << 20, 1 << 32, 1<<32 + 1, math.MaxInt64 - 1, math.MaxInt64, math.MinInt64, math.MinInt64 + 1, -2, -1} {
		checkItem(t, 100, join(kinds, 1), join(2, n), api.ErrTakeRoom)
		checkItem(t, 100, join(kinds, 1), join(5, n), api.ErrTakeRoom)
		checkItem(t, 104, join(kinds, 2, 0), join(5, n), api.ErrTakeRoom)
	}
	// A number that cannot be read comes before the room that lacks even without elements.
	h := used(t, zoo(t), 0)
	for _, b := range broken() {
		checkError(t, h, join(kinds, 1, 2, b), wide, len(kinds)+1, api.ErrTakeForm)
	}
}

// P13.1: values that have no sort, or refer to no object, or cannot be read, in slots and at the end.
func TestValuesOfNoForm(t *testing.T) {
	array := join(1, "Object[]", "", 2, 0, 3, 0, 1)
	numbers := []int{5, 6, 7, 8, 127, 128, 256, 260, 1 << 32, 1<<32 + 4, math.MaxInt64, math.MinInt64, -1, -4}
	var items [][]byte
	for _, sort := range numbers {
		items = append(items, join(sort), join(sort, 0))
	}
	for b := 2; b < 256; b++ {
		items = append(items, []byte{2, byte(b)})
	}
	for _, n := range append(numbers, 2, 3, 4, usedObjects+2, 1<<32+1, math.MinInt64+1) {
		items = append(items, join(4, n))
	}
	for _, item := range items {
		checkItem(t, 100, array, item, api.ErrTakeForm)
		checkItem(t, 100, join(array, 0, 4, 1), item, api.ErrTakeForm)
		checkItem(t, 100, join(array, 0, 4, 1, 4, 0, 4, 1, 1), item, api.ErrTakeForm)
		checkItem(t, 100, join(array, 0, 4, 1, 4, 0, 0, 3, 0, 4, 1), item, api.ErrTakeForm)
		checkItem(t, 100, join(0, 0, 1), item, api.ErrTakeForm)
		checkItem(t, 100, join(0, 0, 64, make([]byte, 63)), item, api.ErrTakeForm)
	}
	checkItem(t, 100, join(0, 0, 1), join(4, 0), api.ErrTakeForm)
	checkForm(t, join(0, 0, 1), []byte{2})
	checkForm(t, array, []byte{2})
}

// P13.1: values that do not fit the kind of their slot. At the end, the same values have no error.
func TestErrTakeValue(t *testing.T) {
	const v, k, m, l, e, object, ls, es, objects, lss = 0, 1, 2, 3, 4, 5, 6, 7, 8, 9
	kinds := join(10, "V", printV, "K", printK, "M", printM, "L", printL, "E", "E().", "Object", "", "L[]", "", "E[]", "", "Object[]", "", "L[][]", "")
	heads := join(10, v, k, m, l, e, object, ls, 1, es, 0, objects, 0, lss, 0)
	to := func(l ...int) [][]byte {
		var items [][]byte
		for _, n := range l {
			items = append(items, join(4, n))
		}
		return items
	}
	all := to(v, k, m, l, e, object, ls, es, objects, lss)
	ints, bools, texts := [][]byte{join(1, 0), join(1, 1)}, [][]byte{join(2, 0), join(2, 1)}, [][]byte{join(3, ""), join(3, "a")}
	none := [][]byte{join(0)}
	plain := slices.Concat(ints, bools, texts)
	before := join(kinds, heads)
	var wrongs [][]byte
	for _, slot := range []struct {
		right []byte
		wrong [][]byte
	}{
		{join(1, 3), slices.Concat(all, bools, texts, none)},  // V.n:int
		{join(2, 1), slices.Concat(all, ints, texts, none)},   // V.b:bool
		{join(3, "a"), slices.Concat(all, ints, bools, none)}, // V.s:text
		{join(4, es), plain},                 // V.o:Object
		{join(0), slices.Concat(all, plain)}, // K.i:I
		{join(0), slices.Concat(all, plain)}, // K.d:D
		{join(4, ls), slices.Concat(to(v, k, m, l, e, object, es, objects, lss), plain)}, // K.l:L[]
		{join(0), slices.Concat(all, plain)},                                             // K.f:Fault
		{join(4, objects), slices.Concat(to(v, k, m, l, e, object, ls, es, lss), plain)}, // K.o:Object[]
		{join(4, m), plain}, // M.a:Object
		{join(1, 0), slices.Concat(all, bools, texts, none)},                             // M.x:int
		{join(4, lss), plain},                                                            // M.b:Object
		{join(3, ""), slices.Concat(all, ints, bools, none)},                             // M.s:text
		{join(4, m), slices.Concat(to(v, k, l, e, object, ls, es, objects, lss), plain)}, // M.c:M
		{join(4, l), slices.Concat(to(v, k, m, e, object, ls, es, objects, lss), plain)}, // L.next:L
		{join(4, l), slices.Concat(to(v, k, m, e, object, ls, es, objects, lss), plain)}, // the element of L[]
	} {
		for _, wrong := range slot.wrong {
			checkItem(t, 100, before, wrong, api.ErrTakeValue)
		}
		wrongs = append(wrongs, slot.wrong...)
		before = append(before, slot.right...)
	}
	for part := range slices.Chunk(wrongs, 64) {
		b := join(before, len(part), slices.Concat(part...))
		if l, at, e := take.Some(used(t, zoo(t), 100), b, wide); len(l) != len(part) || at != 0 || e != api.OK {
			t.Errorf("%v, %d, %d", l, at, e)
		}
	}
	// A value that cannot be read has another error, even if its sort would not fit.
	array := join(1, "int[]", "", 1, 0, 1)
	for _, item := range [][]byte{join(2, 2), join(3, 5), join(3, "\xff"), join(4, 1), join(1), join(4), join(5)} {
		checkForm(t, array, item)
	}
}

// P13.1: more than 64 values are too many, however many bytes follow.
func TestTooManyValues(t *testing.T) {
	for _, n := range []int{65, 66, 127, 128, 256, 320, 1 << 32, 1<<32 + 1, math.MaxInt64, math.MinInt64, -1} {
		checkItem(t, 100, join(0, 0), join(n), api.ErrTakeForm)
		checkItem(t, 100, join(0, 0), join(n, make([]byte, 70)), api.ErrTakeForm)
		checkItem(t, 100, join(1, "E", "E().", 2, 0, 0), join(n), api.ErrTakeForm)
	}
}

// P13.1: any bytes behind the last value, the first of them being where the error is.
func TestMoreBytes(t *testing.T) {
	for _, b := range [][]byte{join(0, 0, 0), join(0, 0, 1, 0), join(0, 0, 1, 3, "text"), join(1, "E", "E().", 1, 0, 2, 0, 4, 0)} {
		for more := range 256 {
			checkItem(t, 100, b, []byte{byte(more)}, api.ErrTakeForm)
		}
	}
}

// P13.1: the end of the bytes within an item, wherever that is: the item has the error.
func TestCutBytes(t *testing.T) {
	items := [][]byte{
		join(3), join("M", printM), join("text[]", ""), join("E", "E()."), join(4), join(0), join(1, 3), join(2), join(0),
		join(4, 1), join(1, 300), join(4, 3), join(3, "é"), join(4, 0), join(3, ""), join(3, "abc"), join(3, "d"), join(0), join(1, -5), join(0), join(3, "e"), join(0),
		join(3), join(4, 2), join(2, 1), join(1, 1<<40),
	}
	h := used(t, zoo(t), 100)
	var before []byte
	for _, item := range items {
		for n := range item {
			checkError(t, h, join(before, item[:n]), wide, len(before), api.ErrTakeForm)
		}
		before = append(before, item...)
	}
	if l, at, e := take.Some(h, before, wide); len(l) != 3 || at != 0 || e != api.OK {
		t.Error(l, at, e)
	}
}

// P13.1: of several errors, the first one counts.
func TestFirstError(t *testing.T) {
	h := used(t, zoo(t), 2)
	e := join(1, "E", "E().")
	checkError(t, h, join(257, "Z", "", 9, 9), api.Limits{Objects: 0, Bytes: 99}, 0, api.ErrTakeForm)
	checkError(t, h, join(1, "Z", "", 9, 9), api.Limits{Objects: 0, Bytes: 99}, 1, api.ErrTakeKind)
	checkError(t, h, join(e, 2, 9, 9), api.Limits{Objects: 1, Bytes: 99}, len(e), api.ErrTakeMany)
	checkError(t, h, join(e, 2, 9, 9), api.Limits{Objects: 2, Bytes: 99}, len(e)+1, api.ErrTakeForm)
	checkError(t, h, join(e, 3, 0, 0, 0, 65), wide, len(e)+3, api.ErrTakeRoom)
	array := join(1, "int[]", "")
	checkError(t, h, join(array, 1, 0, 1, 0, 65), wide, len(array)+3, api.ErrTakeValue)
	checkError(t, h, join(array, 1, 0, 1, 5, 65), wide, len(array)+3, api.ErrTakeForm)
	checkError(t, h, join(array, 1, 0, 1, 1, 5, 65, 0), wide, len(array)+5, api.ErrTakeForm)
	checkError(t, h, join(array, 1, 0, 1, 1, 5, 1, 5, 0), wide, len(array)+6, api.ErrTakeForm)
	checkError(t, h, join(array, 1, 0, 1, 1, 5, 1, 0, 9), wide, len(array)+7, api.ErrTakeForm)
}
