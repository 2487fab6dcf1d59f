package send_test

import (
	"slices"
	"strings"
	"testing"

	"squinch/api"
	"squinch/heap"
	"squinch/send"
)

// checkSome checks the encoding of values, also with limits that just allow it.
func checkSome(t *testing.T, h *heap.Heap, l []api.Value, want string) {
	t.Helper()
	if b, e := send.Some(h, l, wide); string(b) != want || e != api.OK {
		t.Errorf("Some(%.80v) = %.200q, %d, want %.200q", l, b, e, want)
	}
	if len(l) != 1 {
		return
	}
	if b, e := send.Put(h, l[0], wide); string(b) != want || e != api.OK {
		t.Errorf("Put(%.80v) = %.200q, %d, want %.200q", l[0], b, e, want)
	}
}

// checkError checks that there is an error, and nothing besides.
func checkError(t *testing.T, h *heap.Heap, l []api.Value, limits api.Limits, want api.Errno) {
	t.Helper()
	if b, e := send.Some(h, l, limits); len(b) != 0 || e != want {
		t.Errorf("Some(%.80v) with %v = %.80q, %d, want the error %d", l, limits, b, e, want)
	}
	if len(l) != 1 {
		return
	}
	if b, e := send.Put(h, l[0], limits); len(b) != 0 || e != want {
		t.Errorf("Put(%.80v) with %v = %.80q, %d, want the error %d", l[0], limits, b, e, want)
	}
}

// P12.1: the examples of the chapter, and all sorts of values that are no references.
func TestPlain(t *testing.T) {
	h := zooHeap(t, "N")
	checkSome(t, h, []api.Value{num(5)}, "\x00\x00\x01\x01\x0a")
	checkSome(t, h, []api.Value{null}, "\x00\x00\x01\x00")
	checkSome(t, h, nil, "\x00\x00\x00")
	checkSome(t, h, []api.Value{}, "\x00\x00\x00")
	checkSome(t, h, []api.Value{num(-1)}, "\x00\x00\x01\x01\x01")
	checkSome(t, h, []api.Value{num(-300)}, "\x00\x00\x01\x01\xd7\x04")
	checkSome(t, h, []api.Value{num(-1 << 63)}, "\x00\x00\x01\x01\xff\xff\xff\xff\xff\xff\xff\xff\xff\x01")
	checkSome(t, h, []api.Value{flag(0)}, "\x00\x00\x01\x02\x00")
	checkSome(t, h, []api.Value{flag(1)}, "\x00\x00\x01\x02\x01")
	checkSome(t, h, []api.Value{text("")}, "\x00\x00\x01\x03\x00")
	checkSome(t, h, []api.Value{text("é")}, "\x00\x00\x01\x03\x02é")
	long := strings.Repeat("x", api.MaxText)
	checkSome(t, h, []api.Value{text(long)}, "\x00\x00\x01\x03\x80\x20"+long)
	checkSome(t, h, []api.Value{num(1), null, flag(1), null, text("a")}, "\x00\x00\x05\x01\x02\x00\x02\x01\x00\x03\x01a")
}

// P12.1: 64 values are not too many.
func TestNumberOfValues(t *testing.T) {
	h := zooHeap(t, "E")
	for n := range 70 {
		plain, objects := make([]api.Value, n), slices.Repeat(refs(0), n)
		if n > 64 {
			checkError(t, h, plain, wide, api.ErrSendValue)
			checkError(t, h, objects, wide, api.ErrSendValue)
			continue
		}
		checkSome(t, h, plain, join(0, 0, n, make([]byte, n)))
		if n > 0 {
			checkSome(t, h, objects, join(1, "E", "E().", 1, 0, n, slices.Repeat([]byte{4, 0}, n)))
		}
	}
	checkError(t, h, make([]api.Value, 1<<20), wide, api.ErrSendValue)
}

// P12.1: objects of each kind, alone.
func TestObjects(t *testing.T) {
	h := zooHeap(t, "N", "M", "L", "V", "O", "P", "E", "Object", "Fault", "ZeroFault", "int[0]", "bool[2]", "text[1]", "N[2]", "L[][1]", "Object[][][3]")
	none := []byte{0, 0, 0}
	wants := []string{
		join(1, "N", printN, 1, 0, 0, 1, 0, 0),
		join(1, "M", printM, 1, 0, 0, 1, 0, 0, 3, "", 0),
		join(1, "L", printL, 1, 0, 0),
		join(1, "V", printV, 1, 0, 1, 0, 2, 0, 3, "", 0),
		join(1, "O", "O().", 1, 0),
		join(1, "P", printP, 1, 0, 2, 0),
		join(1, "E", "E().", 1, 0),
		join(1, "Object", "", 1, 0),
		join(1, "Fault", "Fault() what:text.", 1, 0, 3, ""),
		join(1, "ZeroFault", "ZeroFault(Fault() what:text.).", 1, 0, 3, ""),
		join(1, "int[]", "", 1, 0, 0),
		join(1, "bool[]", "", 1, 0, 2, 2, 0, 2, 0),
		join(1, "text[]", "", 1, 0, 1, 3, ""),
		join(1, "N[]", "", 1, 0, 2, 0, 0),
		join(1, "L[][]", "", 1, 0, 1, 0),
		join(1, "Object[][][]", "", 1, 0, 3, none),
	}
	for n, want := range wants {
		checkSome(t, h, refs(n), want+join(1, 4, 0))
	}
	set(t, h, 3, 0, num(-2))
	set(t, h, 3, 1, flag(1))
	set(t, h, 3, 2, text("é"))
	checkSome(t, h, refs(3), join(1, "V", printV, 1, 0, 1, 3, 2, 1, 3, "é", 0, 1, 4, 0))
	set(t, h, 11, 1, flag(1))
	set(t, h, 12, 0, text("word"))
	checkSome(t, h, refs(11, 12), join(2, "bool[]", "", "text[]", "", 2, 0, 2, 1, 1, 2, 0, 2, 1, 3, "word", 2, 4, 0, 4, 1))
}

// P12.1: what is not sent is neither written nor reached; its field has no place in the encoding.
func TestTransient(t *testing.T) {
	h := zooHeap(t, "M", "E", "Object[1]", "M", "P")
	link(t, h, [3]int{0, 3, 1}, [3]int{0, 7, 2}, [3]int{4, 0, 1})
	set(t, h, 0, 5, num(7))
	set(t, h, 4, 1, num(8))
	set(t, h, 0, 1, num(1))
	set(t, h, 0, 4, text("s"))
	checkSome(t, h, refs(0), join(1, "M", printM, 1, 0, 0, 1, 2, 0, 3, "s", 0, 1, 4, 0))
	checkSome(t, h, refs(4), join(1, "P", printP, 1, 0, 2, 0, 1, 4, 0))
	link(t, h, [3]int{0, 6, 3})
	checkSome(t, h, refs(0), join(1, "M", printM, 2, 0, 0, 0, 1, 2, 0, 3, "s", 4, 1, 0, 1, 0, 0, 3, "", 0, 1, 4, 0))
}

// P12.1: the objects are numbered breadth-first, whatever their numbers in the heap are, and each is there once.
func TestOrder(t *testing.T) {
	h := zooHeap(t, "L", "N", "E", "N", "N", "N", "N[2]")
	link(t, h, [3]int{3, 0, 1}, [3]int{3, 2, 5}, [3]int{1, 0, 6}, [3]int{5, 0, 2}, [3]int{5, 2, 3}, [3]int{6, 1, 5})
	kinds := join(3, "N", printN, "N[]", "", "E", "E().")
	// 3 is 0, 1 is 1, 5 is 2, 6 is 3 and 2 is 4.
	heads := join(5, 0, 0, 0, 1, 2, 2)
	slots := join(4, 1, 1, 0, 4, 2, 4, 3, 1, 0, 0, 4, 4, 1, 0, 4, 0, 0, 4, 2)
	checkSome(t, h, refs(3), kinds+heads+slots+join(1, 4, 0))
	// From 5, the order is 5, 2, 3, 1, 6.
	checkSome(t, h, refs(5), join(3, "N", printN, "E", "E().", "N[]", "", 5, 0, 1, 0, 0, 2, 2, 4, 1, 1, 0, 4, 2, 4, 3, 1, 0, 4, 0, 4, 4, 1, 0, 0, 0, 4, 0, 1, 4, 0))
	checkSome(t, h, refs(2), join(1, "E", "E().", 1, 0, 1, 4, 0))
}

// P12.1: first what is reachable from the first value, then what the next one adds.
func TestSeveral(t *testing.T) {
	h := zooHeap(t, "L", "L", "L", "L", "Object[2]")
	link(t, h, [3]int{0, 0, 1}, [3]int{2, 0, 3}, [3]int{3, 0, 1}, [3]int{4, 0, 3}, [3]int{4, 1, 0})
	both := join(2, "L", printL, "Object[]", "")
	one := join(1, "L", printL)
	checkSome(t, h, refs(0), join([]byte(one), 2, 0, 0, 4, 1, 0, 1, 4, 0))
	checkSome(t, h, refs(0, 2), join([]byte(one), 4, 0, 0, 0, 0, 4, 1, 0, 4, 3, 4, 1, 2, 4, 0, 4, 2))
	checkSome(t, h, refs(2, 0), join([]byte(one), 4, 0, 0, 0, 0, 4, 1, 4, 2, 0, 4, 2, 2, 4, 0, 4, 3))
	checkSome(t, h, refs(1, 0), join([]byte(one), 2, 0, 0, 0, 4, 0, 2, 4, 0, 4, 1))
	// An object that is reachable from an earlier value has its number already.
	checkSome(t, h, refs(0, 1, 0), join([]byte(one), 2, 0, 0, 4, 1, 0, 3, 4, 0, 4, 1, 4, 0))
	// 4 adds itself, then 3, since 0 is there.
	checkSome(t, h, refs(0, 4), join([]byte(both), 4, 0, 0, 1, 2, 0, 4, 1, 0, 4, 3, 4, 0, 4, 1, 2, 4, 0, 4, 2))
	// Other values between references.
	checkSome(t, h, []api.Value{null, ref(1), num(1), ref(4), ref(1)}, join([]byte(both), 4, 0, 1, 2, 0, 0, 0, 4, 2, 4, 3, 4, 0, 4, 0, 5, 0, 4, 0, 1, 2, 4, 1, 4, 0))
}

// P12.1: references that form cycles, within one object, several, and across values.
func TestCycles(t *testing.T) {
	h := zooHeap(t, "L", "L", "L", "Object[3]")
	link(t, h, [3]int{0, 0, 0}, [3]int{1, 0, 2}, [3]int{2, 0, 1}, [3]int{3, 0, 3}, [3]int{3, 2, 3})
	checkSome(t, h, refs(0), join(1, "L", printL, 1, 0, 4, 0, 1, 4, 0))
	two := join(1, "L", printL, 2, 0, 0, 4, 1, 4, 0)
	checkSome(t, h, refs(1), two+join(1, 4, 0))
	checkSome(t, h, refs(2), two+join(1, 4, 0))
	checkSome(t, h, refs(2, 1), two+join(2, 4, 0, 4, 1))
	checkSome(t, h, refs(3), join(1, "Object[]", "", 1, 0, 3, 4, 0, 0, 4, 0, 1, 4, 0))
}

// P12.1: the encoding is that of the heap as it is now.
func TestAfterChanges(t *testing.T) {
	h := zooHeap(t, "L", "L", "E")
	link(t, h, [3]int{0, 0, 1})
	checkSome(t, h, refs(0), join(1, "L", printL, 2, 0, 0, 4, 1, 0, 1, 4, 0))
	set(t, h, 0, 0, null)
	checkSome(t, h, refs(0), join(1, "L", printL, 1, 0, 0, 1, 4, 0))
	h.Cut(2)
	checkError(t, h, refs(2), wide, api.ErrSendValue)
	h.Object("P")
	checkSome(t, h, refs(2), join(1, "P", printP, 1, 0, 2, 0, 1, 4, 0))
}

// P12.1: what is not valid, alone and among others.
func TestErrSendValue(t *testing.T) {
	h := zooHeap(t, "N", "E", "int[2]")
	values := slices.Concat(wrong(), nowhere(h), odd(0), odd(2))
	for _, v := range values {
		checkError(t, h, []api.Value{v}, wide, api.ErrSendValue)
		checkError(t, h, []api.Value{v, null}, wide, api.ErrSendValue)
		checkError(t, h, []api.Value{null, ref(0), v}, wide, api.ErrSendValue)
		checkError(t, h, append(make([]api.Value, 63), v), wide, api.ErrSendValue)
	}
	empty := zooHeap(t)
	for _, v := range append(wrong(), nowhere(empty)...) {
		checkError(t, empty, []api.Value{v}, wide, api.ErrSendValue)
	}
	checkError(t, empty, refs(0), wide, api.ErrSendValue)
}
