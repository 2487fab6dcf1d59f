package send_test

import (
	"runtime"
	"slices"
	"strconv"
	"strings"
	"testing"

	"squinch/api"
	"squinch/graph"
	"squinch/heap"
	"squinch/send"
)

// great returns a heap with the greatest room.
func great(t *testing.T, l ...api.Class) *heap.Heap {
	t.Helper()
	h, e := heap.New(table(t, l...), api.MaxRoom)
	if e != api.OK {
		t.Fatal(e)
	}
	return h
}

// P12.1: numbers that need more than one byte: of kinds, of objects, of elements, of a reference.
func TestGreatNumbers(t *testing.T) {
	var classes []api.Class
	for n := range 300 {
		classes = append(classes, class("C"+strconv.Itoa(n), "x:int"))
	}
	h := filled(t, table(t, classes...))
	h.Array("Object", 300)
	for n := range 300 {
		h.Object("C" + strconv.Itoa(n))
		set(t, h, 0, int64(n), ref(n+1))
		set(t, h, n+1, 0, num(int64(n-150)))
	}
	l := refs(0, 300, 128, 127)
	want := secondOf(h, l).encode(l)
	checkSome(t, h, l, want)
	if !strings.HasPrefix(want, "\xad\x02\x08Object[]\x00\x02C0") || !strings.HasSuffix(want, "\x04\x04\x00\x04\xac\x02\x04\x80\x01\x04\x7f") {
		t.Errorf("%q", want)
	}
	if p := send.Prints(h, l); len(p) != 301 || p[300] != [2]string{"C299", "C299() x:int."} {
		t.Errorf("%d prints", len(p))
	}
}

// P12.1: a print may be longer than a text may be.
func TestLongPrint(t *testing.T) {
	var classes []api.Class
	want, super := "", "Object"
	for n := range 40 {
		name := "C" + strconv.Itoa(n)
		c := class(name + " " + super)
		want = name + "(" + want + ")"
		for k := range 30 {
			f := api.Field{Name: strings.Repeat("f", 20) + strconv.Itoa(n) + "x" + strconv.Itoa(k), Kind: "bool"}
			c.Fields = append(c.Fields, f)
			want += " " + f.Name + ":bool"
		}
		want += "."
		classes, super = append(classes, c), name
	}
	h := filled(t, table(t, classes...), super)
	checkPrints(t, h, refs(0), [2]string{super, want})
	b, e := send.Put(h, ref(0), wide)
	if len(want) <= api.MaxText || e != api.OK || !strings.Contains(string(b), want+"\x01\x00\x02\x00\x02\x00") {
		t.Errorf("%d bytes, %d", len(b), e)
	}
}

// chain returns a heap that is full of objects, each of which refers to the next one.
func chain(t *testing.T) *heap.Heap {
	t.Helper()
	h := great(t, class("L", "next:L"))
	for n := range api.MaxRoom / 2 {
		if _, e := h.Object("L"); e != api.OK {
			t.Fatal(n, e)
		}
		if n > 0 {
			set(t, h, n-1, 0, ref(n))
		}
	}
	return h
}

// P1: a chain as long as a heap may have it, from its begin, its end, and many places between, each of which comes to all that the ones before it came to.
func TestLongChain(t *testing.T) {
	h := chain(t)
	n := h.Len()
	b, e := send.Put(h, ref(0), wide)
	// Each object has an index of its kind, and a Sort; all but the last one have a number from 1 on, too.
	begin := join(1, "L", "L() next:L.")
	size := len(begin+"\x80\x80\x20") + 2*n + (127 + 2*(1<<14-1<<7) + 3*(n-1<<14)) + len("\x01\x04\x00")
	if len(b) != size || e != api.OK || !strings.HasSuffix(string(b), "\x04\xfe\xff\x1f\x04\xff\xff\x1f\x00\x01\x04\x00") {
		t.Errorf("%d bytes, want %d, %d", len(b), size, e)
	}
	checkError(t, h, refs(0), api.Limits{Objects: n - 1, Bytes: size}, api.ErrSendMany)
	checkError(t, h, refs(0), api.Limits{Objects: n, Bytes: size - 1}, api.ErrSendLong)
	var back []api.Value
	for k := range n {
		back = append(back, ref(n-1-k))
	}
	checkPrints(t, h, back, [2]string{"L", "L() next:L."})
	b, e = send.Some(h, back[:64], wide)
	if !strings.HasPrefix(string(b), begin+join(64, make([]byte, 64), 0, 4, 0, 4, 1, 4, 2)) || e != api.OK {
		t.Errorf("%.100q, %d", b, e)
	}
	l := append(refs(n-2), back[:63]...)
	checkSome(t, h, l, secondOf(h, l).encode(l))
	// Objects that nothing but the last one have in common.
	l = back[n-64:]
	if b, e = send.Some(h, l, wide); len(b) < size || e != api.OK {
		t.Errorf("%d bytes, %d", len(b), e)
	}
}

// P1: the time does not grow with the number of ways to an object: each of two objects of a layer refers to both of the next one.
func TestManyWays(t *testing.T) {
	h := great(t, class("N", "a:N", "b:N"))
	for range 2 * 1000 {
		h.Object("N")
	}
	for n := range 2 * 999 {
		next := n - n%2 + 2
		link(t, h, [3]int{n, 0, next}, [3]int{n, 1, next + 1})
	}
	l := refs(0, 1, 999, 0)
	checkSome(t, h, l, secondOf(h, l).encode(l))
}

// allocated returns how many bytes are allocated by a call.
func allocated(f func()) uint64 {
	var before, after runtime.MemStats
	runtime.ReadMemStats(&before)
	f()
	runtime.ReadMemStats(&after)
	return after.TotalAlloc - before.TotalAlloc
}

// P1: an encoding that is too long is not kept, since it may be far longer than what it encodes: one text is in as many elements as one likes, and prints have the prints of all classes above.
func TestFarTooLong(t *testing.T) {
	h := great(t)
	const n = 1 << 14
	h.Array("text", n)
	for at := range int64(n) {
		set(t, h, 0, at, text(strings.Repeat("x", api.MaxText)))
	}
	limits := api.Limits{Objects: 9, Bytes: 1000}
	if a := allocated(func() { checkError(t, h, refs(0), limits, api.ErrSendLong) }); a > 1<<23 {
		t.Errorf("%d bytes allocated for texts", a)
	}
	var classes []api.Class
	super := "Object"
	for k := range 2000 {
		name := "C" + strconv.Itoa(k)
		classes, super = append(classes, class(name+" "+super)), name
	}
	h = great(t, classes...)
	h.Array("Object", 2000)
	for k := range 2000 {
		h.Object("C" + strconv.Itoa(k))
		set(t, h, 0, int64(k), ref(k+1))
	}
	limits.Objects = 3000
	if a := allocated(func() { checkError(t, h, refs(0), limits, api.ErrSendLong) }); a > 1<<23 {
		t.Errorf("%d bytes allocated for prints", a)
	}
	if b, e := send.Put(h, ref(0), wide); len(b) < 1<<23 || e != api.OK {
		t.Errorf("%d bytes, %d", len(b), e)
	}
}

// checkUnchanged calls f and checks that the heap is the same before and after.
func checkUnchanged(t *testing.T, h *heap.Heap, f func()) {
	t.Helper()
	n, left, cells := h.Len(), h.Left(), h.Cells()
	f()
	if h.Len() != n || h.Left() != left || !sameCells(h.Cells(), cells) {
		t.Errorf("%v became %v", cells, h.Cells())
	}
}

// P1: the heap and the values stay as they are, and what is returned may be changed.
func TestMemory(t *testing.T) {
	h := zooHeap(t, "L", "E", "M", "Object[2]")
	link(t, h, [3]int{0, 0, 0}, [3]int{2, 0, 3}, [3]int{2, 3, 1}, [3]int{3, 1, 0})
	set(t, h, 2, 4, text("word"))
	values := append(make([]api.Value, 0, 9), ref(2), text("a"), ref(1))
	for at := range values[3:9] {
		values[3:9][at] = num(77)
	}
	whole := slices.Clone(values[:9])
	want := secondOf(h, values).encode(values)
	checkUnchanged(t, h, func() {
		for range 2 {
			checkSome(t, h, values, want)
			checkPrints(t, h, values, [2]string{"M", printM}, [2]string{"Object[]", ""}, [2]string{"L", printL}, [2]string{"E", "E()."})
			b, _ := send.Some(h, values, wide)
			b = b[:cap(b)]
			for i := range b {
				b[i] = 99
			}
			p := send.Prints(h, values)
			clear(p[:cap(p)])
		}
	})
	if !slices.Equal(values[:9], whole) {
		t.Errorf("%v became %v", whole, values[:9])
	}
}

// P1: all calls with all arguments that the other tests have, of two heaps and of an empty one.
func TestNonsense(t *testing.T) {
	full, empty := zooHeap(t, "N", "M", "L", "V", "O", "E", "Object[2]", "int[0]"), zooHeap(t)
	link(t, full, [3]int{0, 0, 1}, [3]int{1, 2, 6}, [3]int{6, 1, 0})
	for _, h := range []*heap.Heap{full, empty} {
		values := slices.Concat(plain(), wrong(), nowhere(h), odd(0), odd(6), refs(0, 1, 2, 3, 4, 5, 6, 7, 8))
		checkUnchanged(t, h, func() {
			for _, v := range values {
				for _, w := range values {
					l := []api.Value{v, w}
					for _, limits := range []api.Limits{wide, {}, {Objects: 3, Bytes: 30}, {Objects: -1, Bytes: -1}} {
						if b, e := send.Some(h, l, limits); (len(b) == 0) != (e != api.OK) || len(b) > max(limits.Bytes, 0) {
							t.Errorf("Some(%.80v) with %v = %.80q, %d", l, limits, b, e)
						}
					}
					if p := send.Prints(h, l); len(p) > len(graph.Reach(h, v))+len(graph.Reach(h, w)) {
						t.Errorf("Prints(%.80v) = %q", l, p)
					}
				}
			}
		})
	}
}
