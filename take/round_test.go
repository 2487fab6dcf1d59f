package take_test

import (
	"slices"
	"strings"
	"testing"

	"squinch/api"
	"squinch/graph"
	"squinch/heap"
	"squinch/hier"
	"squinch/send"
	"squinch/take"
)

// twin returns a table with the classes of the zoo, with the same layouts, but in another order and with other Transient fields.
func twin(t testing.TB) *hier.Table {
	return table(t,
		class("K", "i:I", "-t:K", "d:D", "l:L[]", "f:Fault", "o:Object[]"),
		class("E", "-z:E"),
		class("Q D I"),
		class("P O", "-t:P", "ok:bool", "-u:int"),
		class("O"),
		class("V", "n:int", "-t:V", "b:bool", "s:text", "o:Object"),
		class("*D L"),
		class("L", "next:L"),
		class("J Object I", "-i:I"),
		class("M N", "s:text", "-v:Object", "c:M"),
		class("N", "-s2:text", "a:Object", "-n:N[]", "x:int", "b:Object"),
		api.Class{Name: "I", Super: "Object", Interface: true, Abstract: true},
	)
}

// heap returns a heap with random objects, and random values in them.
func (d dice) heap(t *testing.T, table *hier.Table, most int) *heap.Heap {
	t.Helper()
	all := strings.Fields("N N N M L L V O P E J Q K Object ZeroFault Object[2] N[1] L[2] L[][1] int[2] text[1] bool[3] I[2]")
	var kinds []string
	for range 1 + d.Intn(most) {
		kinds = append(kinds, all[d.Intn(len(all))])
	}
	h := filled(t, table, 20000, kinds...)
	full := d.Intn(4)
	for n := range h.Len() {
		for at := range h.Size(n) {
			if d.Intn(4) <= full {
				d.assign(h, n, at)
			}
		}
	}
	return h
}

// assign assigns a random value, if it is one that fits.
func (d dice) assign(h *heap.Heap, n, at int) {
	l := []api.Value{num(int64(d.Intn(2))), num(d.Int63() - 1<<62), flag(int64(d.Intn(2))), text([]string{"", "a", "é"}[d.Intn(3)]), null}
	for range 5 {
		l = append(l, ref(d.Intn(h.Len())))
	}
	for range 8 {
		if h.Set(n, int64(at), l[d.Intn(len(l))]) == api.OK {
			return
		}
	}
}

// values returns random values of a heap.
func (d dice) values(h *heap.Heap) []api.Value {
	some := []api.Value{null, num(d.Int63()), flag(1), text("word"), num(0)}
	var l []api.Value
	for range d.Intn(8) {
		l = append(l, ref(d.Intn(h.Len())))
		if d.Intn(3) == 0 {
			l = append(l, some[d.Intn(len(some))])
		}
	}
	return l
}

// checkRound sends values from one heap to another one and checks that they are isomorphic there, each by itself and all together (in what they share), and that nothing else changes.
func checkRound(t *testing.T, from *heap.Heap, l []api.Value, to *heap.Heap) {
	t.Helper()
	b, e := send.Some(from, l, wide)
	if e != api.OK {
		t.Fatalf("%v: %d", l, e)
	}
	old, sent := to.Cells(), from.Cells()
	m, at, e := take.Some(to, b, wide)
	if len(m) != len(l) || at != 0 || e != api.OK || !to.Right() {
		t.Fatalf("%v became %v, %d, %d from %q", l, m, at, e, b)
	}
	if !sameCells(to.Cells()[:len(old)], old) || from != to && !sameCells(from.Cells(), sent) {
		t.Fatalf("%v: the old objects are changed", l)
	}
	var pairs [][2]int
	for i := range l {
		if !graph.Alike(from, l[i], to, m[i]) {
			t.Fatalf("%v became %v in %s from %s", l, m, short(to.Cells()), short(sent))
		}
		pairs = append(pairs, graph.Pairs(from, l[i], to, m[i])...)
	}
	// Each object has one copy.
	copies := map[int]int{}
	for _, p := range pairs {
		if c, ok := copies[p[0]]; ok && c != p[1] {
			t.Fatalf("%v became %v: two copies of %d", l, m, p[0])
		}
		copies[p[0]] = p[1]
	}
	if to.Len() != len(old)+len(copies) {
		t.Fatalf("%v became %v: %d new objects for %d", l, m, to.Len()-len(old), len(copies))
	}
	if again, e := send.Some(to, m, wide); string(again) != string(b) || e != api.OK {
		t.Fatalf("%v became %v, which is sent as %q, not %q", l, m, again, b)
	}
}

// P13.3: what was encoded is decoded to isomorphic values: random heaps, by the same table and by one with the same layouts, into another heap and into the same one.
func TestRoundTrip(t *testing.T) {
	d, zoo, twin := diceOf(15), zoo(t), twin(t)
	for range 3000 {
		h := d.heap(t, zoo, 20)
		l := d.values(h)
		checkRound(t, h, l, d.heap(t, zoo, 5))
		checkRound(t, h, l, d.heap(t, twin, 5))
		checkRound(t, h, l, h)
		checkRound(t, h, l, h)
		v := ref(d.Intn(h.Len()))
		checkCopy(t, h, v, d.heap(t, twin, 5), wide)
		checkCopy(t, h, v, h, wide)
	}
}

// P13.3: what only differs in what is not sent, and comes back.
func TestThereAndBack(t *testing.T) {
	a, b := full(t), used(t, twin(t), 1000)
	for n := range a.Len() {
		v, e := take.Copy(a, ref(n), b, wide)
		w, f := take.Copy(b, v, a, wide)
		if e != api.OK || f != api.OK || !graph.Alike(a, ref(n), a, w) || !a.Right() || !b.Right() {
			t.Errorf("%d: %v, %d, %v, %d", n, v, e, w, f)
		}
	}
}

// P13.3: the heap is well-typed whatever is read, also after many other bytes, with errors and without.
func TestWellTyped(t *testing.T) {
	d, zoo := diceOf(16), zoo(t)
	h := used(t, zoo, 5000)
	taken := 0
	for range 3000 {
		old, items := h.Cells(), d.items(t)
		b := slices.Concat(items...)
		if d.Intn(4) > 0 {
			b = d.damaged(items)
		}
		if _, _, e := take.Some(h, b, wide); e == api.OK {
			taken++
		}
		if after := h.Cells(); !sameCells(after[:len(old)], old) || !h.Right() {
			t.Fatalf("%s became %s", short(old), short(after))
		}
		if h.Left() < 100 {
			h = used(t, zoo, 5000)
		}
	}
	if taken < 500 {
		t.Errorf("only %d", taken)
	}
}

// P13.1: the heap is used as any other one after that: what was taken can be changed, and cut again.
func TestAfterTaking(t *testing.T) {
	h := used(t, zoo(t), 20)
	left, old := h.Left(), h.Cells()
	b := join(2, "L", printL, "Object[]", "", 3, 0, 0, 1, 2, 4, 1, 0, 4, 0, 4, 2, 1, 4, 2)
	for range 3 {
		v, _, e := take.Get(h, b, wide)
		if v != ref(usedObjects+2) || e != api.OK {
			t.Fatal(v, e)
		}
		set(t, h, v.Ref, 0, ref(1))
		set(t, h, v.Ref-1, 0, ref(v.Ref-2))
		if n, e := h.Object("E"); n != usedObjects+3 || e != api.OK {
			t.Error(n, e)
		}
		h.Cut(usedObjects)
		if h.Left() != left || !sameCells(h.Cells(), old) {
			t.Errorf("%v with %d left", h.Cells(), h.Left())
		}
	}
	if !slices.Equal(graph.Reach(h, ref(1)), []int{1, 0, 2, 3}) {
		t.Error(h.Cells())
	}
}
