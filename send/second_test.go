package send_test

import (
	"encoding/binary"
	"math/rand"
	"slices"
	"strings"
	"testing"

	"squinch/api"
	"squinch/graph"
	"squinch/heap"
	"squinch/hier"
	"squinch/send"
)

// second is a second definition of the encoding, word by word, in any time that it takes. It takes the objects from the heap, the classes from the table, and what is reachable from one value from layer 11.
type second struct {
	heap    *heap.Heap
	cells   []api.Cell
	objects []int
	kinds   []string
	data    []byte
}

func secondOf(h *heap.Heap, l []api.Value) *second {
	s := &second{heap: h, cells: h.Cells()}
	for _, v := range l {
		for _, n := range graph.Reach(h, v) {
			if !slices.Contains(s.objects, n) {
				s.objects = append(s.objects, n)
			}
		}
	}
	for _, n := range s.objects {
		if !slices.Contains(s.kinds, s.cells[n].Kind) {
			s.kinds = append(s.kinds, s.cells[n].Kind)
		}
	}
	return s
}

func (s *second) prints() [][2]string {
	var l [][2]string
	for _, kind := range s.kinds {
		l = append(l, [2]string{kind, layout(s.heap.Table(), kind)})
	}
	return l
}

func layout(t *hier.Table, name string) string {
	c, ok := t.Get(name)
	if !ok || name == "Object" {
		return ""
	}
	parts := []string{name, "(", layout(t, c.Super), ")"}
	for _, f := range c.Fields {
		if !f.Transient {
			parts = append(parts, " ", f.Name, ":", f.Kind)
		}
	}
	return strings.Join(append(parts, "."), "")
}

// sentFields tells which fields of a class are sent.
func sentFields(t *hier.Table, name string) []bool {
	var all []bool
	for c, ok := t.Get(name); ok; c, ok = t.Get(c.Super) {
		var own []bool
		for _, f := range c.Fields {
			own = append(own, !f.Transient)
		}
		all = append(own, all...)
	}
	return all
}

func (s *second) number(n int) { s.data = binary.AppendUvarint(s.data, uint64(n)) }

func (s *second) text(x string) {
	s.number(len(x))
	s.data = append(s.data, x...)
}

func (s *second) value(v api.Value) {
	s.data = append(s.data, byte(v.Sort))
	switch v.Sort {
	case api.Int:
		s.data = binary.AppendVarint(s.data, v.N)
	case api.Bool:
		s.data = append(s.data, byte(v.N))
	case api.Text:
		s.text(v.S)
	case api.Ref:
		s.number(slices.Index(s.objects, v.Ref))
	}
}

// encode returns the encoding of valid values.
func (s *second) encode(l []api.Value) string {
	s.number(len(s.kinds))
	for _, print := range s.prints() {
		s.text(print[0])
		s.text(print[1])
	}
	s.number(len(s.objects))
	for _, n := range s.objects {
		s.number(slices.Index(s.kinds, s.cells[n].Kind))
		if strings.HasSuffix(s.cells[n].Kind, "[]") {
			s.number(len(s.cells[n].Values))
		}
	}
	for _, n := range s.objects {
		isSent := sentFields(s.heap.Table(), s.cells[n].Kind)
		for at, v := range s.cells[n].Values {
			if strings.HasSuffix(s.cells[n].Kind, "[]") || isSent[at] {
				s.value(v)
			}
		}
	}
	s.number(len(l))
	for _, v := range l {
		s.value(v)
	}
	return string(s.data)
}

func (s *second) some(l []api.Value, limits api.Limits) (string, api.Errno) {
	invalid := len(l) > 64
	for _, v := range l {
		invalid = invalid || s.heap.Of(v) == ""
	}
	if invalid {
		return "", api.ErrSendValue
	}
	if len(s.objects) > limits.Objects {
		return "", api.ErrSendMany
	}
	if b := s.encode(l); len(b) <= limits.Bytes {
		return b, api.OK
	}
	return "", api.ErrSendLong
}

// twin returns a table with the classes of the zoo, with the same layouts, but with other Transient fields.
func twin(t testing.TB) *hier.Table {
	return table(t,
		class("E", "-z:E"),
		class("P O", "-t:P", "ok:bool", "-u:int"),
		class("O"),
		class("V", "n:int", "-t:V", "b:bool", "s:text", "o:Object"),
		class("L", "next:L"),
		class("M N", "s:text", "-v:Object", "c:M"),
		class("N", "-s2:text", "a:Object", "-n:N[]", "x:int", "b:Object"),
	)
}

// dice chooses at random, the same in each run.
type dice struct{ *rand.Rand }

func diceOf(seed int64) dice { return dice{rand.New(rand.NewSource(seed))} }

func (d dice) heap(t *testing.T, table *hier.Table, most int) *heap.Heap {
	t.Helper()
	all := strings.Fields("N N N M L L V O P E Object ZeroFault Object[2] N[1] L[2] L[][1] int[2] text[1]")
	// Few kinds make it likely that two heaps have the same ones.
	few := []string{all[d.Intn(len(all))], all[d.Intn(len(all))], all[d.Intn(len(all))]}
	var kinds []string
	for range 1 + d.Intn(most) {
		kinds = append(kinds, few[d.Intn(3)])
	}
	h := filled(t, table, kinds...)
	full := d.Intn(4)
	for n := range h.Len() {
		for at := range h.Size(n) {
			if d.Intn(4) <= full {
				d.assign(h, n, at)
			}
		}
	}
	return h
}

// assign assigns a random value, if it is one that fits.
func (d dice) assign(h *heap.Heap, n, at int) {
	l := []api.Value{num(int64(d.Intn(2))), num(d.Int63() - 1<<62), flag(int64(d.Intn(2))), text([]string{"", "a"}[d.Intn(2)]), null}
	for range 5 {
		l = append(l, ref(d.Intn(h.Len())))
	}
	for range 8 {
		if h.Set(n, int64(at), l[d.Intn(len(l))]) == api.OK {
			return
		}
	}
}

// copied returns a heap with the objects of another one, in another order, with whatever they like in what is not sent; to has the numbers of the copies.
func (d dice) copied(t *testing.T, h *heap.Heap, table *hier.Table) (*heap.Heap, []int) {
	t.Helper()
	to := d.Perm(h.Len())
	kinds := make([]string, h.Len())
	for n := range to {
		kinds[to[n]] = h.Kind(n)
		if elem, isArray := strings.CutSuffix(h.Kind(n), "[]"); isArray {
			kinds[to[n]] = elem + "[" + string(rune('0'+h.Size(n))) + "]"
		}
	}
	g := filled(t, table, kinds...)
	for n := range g.Len() {
		for at := range g.Size(n) {
			d.assign(g, n, at)
		}
	}
	for n, c := range h.Cells() {
		places := graph.Sent(g, to[n])
		for k, at := range graph.Sent(h, n) {
			v := c.Values[at]
			if v.Sort == api.Ref {
				v.Ref = to[v.Ref]
			}
			set(t, g, to[n], int64(places[k]), v)
		}
	}
	return g, to
}

// values returns random values, not all of them valid.
func (d dice) values(h *heap.Heap) []api.Value {
	var l []api.Value
	some := []api.Value{null, num(d.Int63()), flag(1), text("word"), num(0)}
	for range d.Intn(6) {
		l = append(l, ref(d.Intn(h.Len())), some[d.Intn(len(some))])
	}
	d.Shuffle(len(l), func(i, k int) { l[i], l[k] = l[k], l[i] })
	bad := slices.Concat(wrong(), nowhere(h), odd(d.Intn(h.Len())))
	if d.Intn(10) == 0 {
		l = append(l, bad[d.Intn(len(bad))])
	}
	return l
}

// P12.1, P12.2: random values of random heaps, with random limits, by the second definition.
func TestRandomValues(t *testing.T) {
	d, zoo := diceOf(12), zoo(t)
	count := map[api.Errno]int{}
	for range 4000 {
		h := d.heap(t, zoo, 1+d.Intn(30))
		l := d.values(h)
		if got, want := send.Prints(h, l), secondOf(h, l).prints(); !slices.Equal(got, want) {
			t.Fatalf("Prints(%v) = %q, want %q in %v", l, got, want, h.Cells())
		}
		for _, limits := range []api.Limits{wide, {Objects: d.Intn(20), Bytes: 2000}, {Objects: 30, Bytes: d.Intn(400)}, {Objects: d.Intn(30), Bytes: d.Intn(400)}} {
			want, e := secondOf(h, l).some(l, limits)
			if got, f := send.Some(h, l, limits); string(got) != want || f != e {
				t.Fatalf("Some(%v) with %v = %q, %d, want %q, %d in %v", l, limits, got, f, want, e, h.Cells())
			}
			count[e]++
		}
	}
	for _, e := range []api.Errno{api.OK, api.ErrSendValue, api.ErrSendMany, api.ErrSendLong} {
		if count[e] < 500 {
			t.Errorf("%d: only %d of %v", e, count[e], count)
		}
	}
}

// checkPuts checks for all values of two heaps with the same layouts that just those that are isomorphic have the same encoding, and counts them.
func checkPuts(t *testing.T, a, b *heap.Heap, count map[bool]int) {
	t.Helper()
	put := func(h *heap.Heap) ([]api.Value, []string) {
		l := []api.Value{null, num(0), num(1), flag(0), flag(1), text(""), text("0")}
		for n := range h.Len() {
			l = append(l, ref(n))
		}
		var encodings []string
		for _, v := range l {
			p, e := send.Put(h, v, wide)
			if e != api.OK {
				t.Fatal(v, e)
			}
			encodings = append(encodings, string(p))
		}
		return l, encodings
	}
	l, p := put(a)
	m, q := put(b)
	for i, v := range l {
		for k, w := range m {
			alike := graph.Alike(a, v, b, w)
			if alike != (p[i] == q[k]) {
				t.Fatalf("%v and %v: isomorphic: %v, %q and %q in %v and %v", v, w, alike, p[i], q[k], a.Cells(), b.Cells())
			}
			if len(graph.Reach(a, v)) > 2 && len(graph.Reach(b, w)) > 2 {
				count[alike]++
			}
		}
	}
}

// P12.3: random heaps, any two of them, and one and a copy of it of which one slot after another is changed.
func TestIsomorphicValues(t *testing.T) {
	d, zoo, twin := diceOf(13), zoo(t), twin(t)
	count := map[bool]int{}
	for range 2000 {
		a := d.heap(t, zoo, 8)
		checkPuts(t, a, a, count)
		checkPuts(t, a, d.heap(t, twin, 8), count)
		for _, table := range []*hier.Table{zoo, twin} {
			b, _ := d.copied(t, a, table)
			checkPuts(t, a, b, count)
			for range 3 {
				if n := d.Intn(b.Len()); b.Size(n) > 0 {
					d.assign(b, n, d.Intn(b.Size(n)))
				}
				checkPuts(t, a, b, count)
			}
		}
	}
	if count[true] < 5000 || count[false] < 20000 {
		t.Errorf("only %v", count)
	}
}

// P12.3: lists of values of greater heaps and of copies of them, and with two values exchanged.
func TestIsomorphicLists(t *testing.T) {
	d, zoo, twin := diceOf(14), zoo(t), twin(t)
	for range 300 {
		a := d.heap(t, zoo, 60)
		b, to := d.copied(t, a, twin)
		var l, m []api.Value
		for range 2 + d.Intn(60) {
			n := d.Intn(a.Len())
			l, m = append(l, ref(n)), append(m, ref(to[n]))
		}
		p, e := send.Some(a, l, wide)
		if q, f := send.Some(b, m, wide); string(p) != string(q) || e != api.OK || f != api.OK {
			t.Fatalf("%v and %v: %q and %q in %v and %v", l, m, p, q, a.Cells(), b.Cells())
		}
		if !slices.Equal(send.Prints(a, l), send.Prints(b, m)) {
			t.Fatalf("%v and %v: %q and %q", l, m, send.Prints(a, l), send.Prints(b, m))
		}
		if !graph.Alike(a, l[0], b, m[1]) || !graph.Alike(a, l[1], b, m[0]) {
			m[0], m[1] = m[1], m[0]
			if q, _ := send.Some(b, m, wide); string(p) == string(q) {
				t.Fatalf("%v and %v: the same encoding in %v and %v", l, m, a.Cells(), b.Cells())
			}
		}
	}
}

// P12.3: lists of pairwise isomorphic values differ if their values share objects in other ways.
func TestSharedByValues(t *testing.T) {
	h := zooHeap(t, "L", "L", "L", "L")
	link(t, h, [3]int{0, 0, 2}, [3]int{1, 0, 3})
	apart, _ := send.Some(h, refs(0, 1), wide)
	other, _ := send.Some(h, refs(1, 0), wide)
	same, _ := send.Some(h, refs(0, 0), wide)
	link(t, h, [3]int{1, 0, 2})
	shared, _ := send.Some(h, refs(0, 1), wide)
	if string(apart) != string(other) || string(apart) == string(same) || string(apart) == string(shared) || string(same) == string(shared) {
		t.Errorf("%q, %q, %q, %q", apart, other, same, shared)
	}
}

// P12.1: an encoding has the layouts, so that those of other tables differ even if the values are isomorphic.
func TestOtherLayouts(t *testing.T) {
	tables := []*hier.Table{
		table(t, class("A", "x:int")),
		table(t, class("A", "y:int")),
		table(t, class("A", "x:Object")),
		table(t, class("A B"), class("B", "x:int")),
		table(t, class("A B", "x:int"), class("B")),
	}
	met := map[string]int{}
	for i, table := range tables {
		p, e := send.Put(filled(t, table, "A"), ref(0), wide)
		if e != api.OK || met[string(p)] > 0 {
			t.Errorf("%d: %q, %d", i, p, e)
		}
		met[string(p)]++
	}
}
