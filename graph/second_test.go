package graph_test

import (
	"math/rand"
	"slices"
	"strings"
	"testing"

	"squinch/api"
	"squinch/graph"
	"squinch/heap"
	"squinch/hier"
)

// second is a second definition of what is reachable, of isomorphism, and of cycles, word by word, in any time that it takes. It takes the objects from the heap, and the classes from the table.
type second struct {
	cells []api.Cell
	slots [][]int
	paths [][][]int // by two objects: the least path of indices of slots by which one is reachable from the other, nil if there is none; first the shorter ones
}

func secondOf(h *heap.Heap) *second {
	s := &second{cells: h.Cells()}
	for _, c := range s.cells {
		s.slots = append(s.slots, sentSlots(h.Table(), c))
		s.paths = append(s.paths, make([][]int, len(s.cells)))
	}
	// No least path comes to an object twice, so none has more slots than there are objects.
	for n := range s.cells {
		s.paths[n][n] = []int{}
		for range s.cells {
			s.lengthen(n)
		}
	}
	return s
}

func sentSlots(t *hier.Table, c api.Cell) []int {
	var all []bool
	for class, ok := t.Get(c.Kind); ok; class, ok = t.Get(class.Super) {
		var own []bool
		for _, f := range class.Fields {
			own = append(own, !f.Transient)
		}
		all = append(own, all...)
	}
	var l []int
	for at := range c.Values {
		if strings.HasSuffix(c.Kind, "[]") || all[at] {
			l = append(l, at)
		}
	}
	return l
}

// lengthen finds the paths from an object that have one slot more.
func (s *second) lengthen(n int) {
	for over, path := range s.paths[n] {
		for k, at := range s.slots[over] {
			v := s.cells[over].Values[at]
			if path == nil || v.Sort != api.Ref {
				continue
			}
			longer := append(slices.Clone(path), k)
			if known := s.paths[n][v.Ref]; known == nil || pathOrder(longer, known) < 0 {
				s.paths[n][v.Ref] = longer
			}
		}
	}
}

func pathOrder(a, b []int) int {
	if len(a) != len(b) {
		return len(a) - len(b)
	}
	return slices.Compare(a, b)
}

func (s *second) object(v api.Value) bool {
	return v.Sort == api.Ref && v.Ref >= 0 && v.Ref < len(s.cells)
}

// reach sorts the reachable objects by their paths.
func (s *second) reach(v api.Value) []int {
	var l []int
	if !s.object(v) {
		return l
	}
	for n, path := range s.paths[v.Ref] {
		if path != nil {
			l = append(l, n)
		}
	}
	slices.SortFunc(l, func(a, b int) int { return pathOrder(s.paths[v.Ref][a], s.paths[v.Ref][b]) })
	return l
}

func (s *second) cycle(v api.Value) bool {
	for _, n := range s.reach(v) {
		for _, at := range s.slots[n] {
			if w := s.cells[n].Values[at]; s.object(w) && s.paths[w.Ref][n] != nil {
				return true
			}
		}
	}
	return false
}

// pairs tries every one-to-one correspondence.
func (s *second) pairs(v api.Value, o *second, w api.Value) [][2]int {
	l, m := s.reach(v), o.reach(w)
	if len(l) != len(m) || len(l) == 0 {
		return nil
	}
	to := map[int]int{v.Ref: w.Ref}
	if !s.extend(l[1:], slices.DeleteFunc(m, func(n int) bool { return n == w.Ref }), o, to) {
		return nil
	}
	var pairs [][2]int
	for _, n := range l {
		pairs = append(pairs, [2]int{n, to[n]})
	}
	return pairs
}

// extend extends a correspondence by that of further objects, and reports whether it can be one.
func (s *second) extend(l, m []int, o *second, to map[int]int) bool {
	if len(l) == 0 {
		for n := range to {
			if !s.corresponds(n, o, to) {
				return false
			}
		}
		return true
	}
	for k := range m {
		to[l[0]] = m[k]
		if s.extend(l[1:], slices.Delete(slices.Clone(m), k, k+1), o, to) {
			return true
		}
	}
	delete(to, l[0])
	return false
}

func (s *second) corresponds(n int, o *second, to map[int]int) bool {
	c, d := s.cells[n], o.cells[to[n]]
	if c.Kind != d.Kind || len(s.slots[n]) != len(o.slots[to[n]]) {
		return false
	}
	for k := range s.slots[n] {
		v, w := c.Values[s.slots[n][k]], d.Values[o.slots[to[n]][k]]
		if v.Sort == api.Ref {
			v.Ref = to[v.Ref]
		}
		if v != w {
			return false
		}
	}
	return true
}

func (s *second) alike(v api.Value, o *second, w api.Value) bool {
	if v.Sort == api.Ref || w.Sort == api.Ref {
		return v.Sort == w.Sort && s.pairs(v, o, w) != nil
	}
	return v == w
}

// twin returns a table with the classes of the zoo, with the same layouts, but with other Transient fields.
func twin(t testing.TB) *hier.Table {
	return table(t,
		class("E", "-z:E"),
		class("P O", "-t:P", "ok:bool", "-u:int"),
		class("O"),
		class("L", "next:L"),
		class("M N", "s:text", "-v:Object", "c:M"),
		class("N", "-s2:text", "a:Object", "-n:N[]", "x:int", "b:Object"),
	)
}

var zooKinds = strings.Fields("N N N M L L O P E Object[2] N[1] L[2] L[][1] int[2]")

// dice chooses at random, the same in each run.
type dice struct{ *rand.Rand }

func (d dice) heap(t *testing.T, table *hier.Table, most int) *heap.Heap {
	t.Helper()
	// Few kinds make it likely that two heaps have the same ones.
	few := []string{zooKinds[d.Intn(len(zooKinds))], zooKinds[d.Intn(len(zooKinds))], zooKinds[d.Intn(len(zooKinds))]}
	var kinds []string
	for range 1 + d.Intn(most) {
		kinds = append(kinds, few[d.Intn(3)])
	}
	h := filled(t, table, kinds...)
	full := d.Intn(4)
	for n := range h.Len() {
		for at := range h.Size(n) {
			if d.Intn(4) <= full {
				d.assign(h, n, at)
			}
		}
	}
	return h
}

// assign assigns a random value, if it is one that fits.
func (d dice) assign(h *heap.Heap, n, at int) api.Errno {
	l := []api.Value{num(int64(d.Intn(2))), flag(int64(d.Intn(2))), text([]string{"", "a"}[d.Intn(2)]), null}
	for range 5 {
		l = append(l, ref(d.Intn(h.Len())))
	}
	for range 8 {
		if e := h.Set(n, int64(at), l[d.Intn(len(l))]); e == api.OK {
			return e
		}
	}
	return api.ErrHeapKind
}

// copied returns a heap with the objects of another one, in another order, with whatever they like in what is not sent; to has the numbers of the copies.
func (d dice) copied(t *testing.T, h *heap.Heap, table *hier.Table) (*heap.Heap, []int) {
	t.Helper()
	to := d.Perm(h.Len())
	kinds := make([]string, h.Len())
	for n := range to {
		kinds[to[n]] = h.Kind(n)
		if elem, isArray := strings.CutSuffix(h.Kind(n), "[]"); isArray {
			kinds[to[n]] = elem + "[" + string(rune('0'+h.Size(n))) + "]"
		}
	}
	g := filled(t, table, kinds...)
	for n := range g.Len() {
		for at := range g.Size(n) {
			d.assign(g, n, at)
		}
	}
	cells, copies := h.Cells(), g.Cells()
	for n, c := range cells {
		places := sentSlots(table, copies[to[n]])
		for k, at := range sentSlots(h.Table(), c) {
			v := c.Values[at]
			if v.Sort == api.Ref {
				v.Ref = to[v.Ref]
			}
			set(t, g, to[n], int64(places[k]), v)
		}
	}
	return g, to
}

// valuesOf are references to all objects, with some other values.
func valuesOf(h *heap.Heap) []api.Value {
	l := []api.Value{null, num(1), text("a"), ref(-1), ref(h.Len())}
	for n := range h.Len() {
		l = append(l, ref(n))
	}
	return append(l, api.Value{Sort: api.Ref, N: 7})
}

// checkHeap checks all that is told of one heap, and counts the values with and without cycles.
func checkHeap(t *testing.T, h *heap.Heap, count map[string]int) {
	t.Helper()
	s := secondOf(h)
	for n, want := range s.slots {
		if got := graph.Sent(h, n); !slices.Equal(got, want) {
			t.Fatalf("Sent(%d) = %v, want %v in %v", n, got, want, s.cells)
		}
	}
	for _, v := range valuesOf(h) {
		if got, want := graph.Reach(h, v), s.reach(v); !slices.Equal(got, want) {
			t.Fatalf("Reach(%v) = %v, want %v in %v", v, got, want, s.cells)
		}
		got, want := graph.Cycle(h, v), s.cycle(v)
		if got != want {
			t.Fatalf("Cycle(%v) = %v, want %v in %v", v, got, want, s.cells)
		}
		if got {
			count["cycle"]++
		} else if s.object(v) {
			count["no cycle"]++
		}
	}
}

// checkHeaps checks all that is told of two heaps, and counts the isomorphic references and the others.
func checkHeaps(t *testing.T, a, b *heap.Heap, count map[string]int) {
	t.Helper()
	x, y := secondOf(a), secondOf(b)
	for _, v := range valuesOf(a) {
		for _, w := range valuesOf(b) {
			got, want := graph.Pairs(a, v, b, w), x.pairs(v, y, w)
			if !slices.Equal(got, want) {
				t.Fatalf("Pairs of %v and %v: %v, want %v in %v and %v", v, w, got, want, x.cells, y.cells)
			}
			alike := graph.Alike(a, v, b, w)
			if alike != x.alike(v, y, w) || alike != graph.Alike(b, w, a, v) {
				t.Fatalf("Alike of %v and %v: %v in %v and %v", v, w, alike, x.cells, y.cells)
			}
			switch n := len(x.reach(v)); {
			case alike && n > 2:
				count["alike"]++
			case n > 2 && len(y.reach(w)) == n:
				count["not alike, as many objects"]++
			}
		}
	}
}

// P11.1 to P11.3: random heaps by the second definition: any two of them, one and a copy of it, and one and such a copy of which one slot is changed.
func TestRandomHeaps(t *testing.T) {
	d, zoo, twin := dice{rand.New(rand.NewSource(11))}, zoo(t), twin(t)
	count := map[string]int{}
	for range 1500 {
		a := d.heap(t, zoo, 7)
		checkHeap(t, a, count)
		checkHeaps(t, a, a, count)
		checkHeaps(t, a, d.heap(t, zoo, 7), count)
		for _, table := range []*hier.Table{zoo, twin} {
			b, _ := d.copied(t, a, table)
			checkHeaps(t, a, b, count)
			for range 3 {
				if n := d.Intn(b.Len()); b.Size(n) > 0 {
					d.assign(b, n, d.Intn(b.Size(n)))
				}
				checkHeap(t, b, count)
				checkHeaps(t, a, b, count)
			}
		}
	}
	for _, what := range []string{"cycle", "no cycle", "alike", "not alike, as many objects"} {
		if count[what] < 5000 {
			t.Errorf("%s: only %d of %v", what, count[what], count)
		}
	}
}

// P11.2: greater heaps and copies of them, for which the correspondence is known.
func TestRandomCopies(t *testing.T) {
	d, zoo, twin := dice{rand.New(rand.NewSource(12))}, zoo(t), twin(t)
	for range 300 {
		a := d.heap(t, zoo, 60)
		b, to := d.copied(t, a, twin)
		for n := range a.Len() {
			var want [][2]int
			for _, k := range graph.Reach(a, ref(n)) {
				want = append(want, [2]int{k, to[k]})
			}
			checkAlike(t, a, ref(n), b, ref(to[n]), want...)
		}
	}
}

// P11.4: every value but a reference to no object is isomorphic to itself, and isomorphism is symmetric and transitive.
func TestEquivalence(t *testing.T) {
	d, zoo, twin := dice{rand.New(rand.NewSource(13))}, zoo(t), twin(t)
	chains := 0
	for range 200 {
		a := d.heap(t, zoo, 6)
		b, _ := d.copied(t, a, twin)
		c, _ := d.copied(t, a, zoo)
		d.assign(c, d.Intn(c.Len()), 0)
		for _, v := range valuesOf(a) {
			if nowhere := v.Sort == api.Ref && (v.Ref < 0 || v.Ref >= a.Len()); graph.Alike(a, v, a, v) == nowhere {
				t.Fatalf("%v is isomorphic to itself: %v in %v", v, !nowhere, a.Cells())
			}
			for _, w := range valuesOf(b) {
				alike := graph.Alike(a, v, b, w)
				if alike != graph.Alike(b, w, a, v) {
					t.Fatalf("%v and %v: not symmetric in %v and %v", v, w, a.Cells(), b.Cells())
				}
				for _, u := range valuesOf(c) {
					if !alike || !graph.Alike(b, w, c, u) {
						continue
					}
					if !graph.Alike(a, v, c, u) {
						t.Fatalf("%v, %v and %v: not transitive in %v, %v and %v", v, w, u, a.Cells(), b.Cells(), c.Cells())
					}
					chains++
				}
			}
		}
	}
	if chains < 1000 {
		t.Errorf("only %d chains of three", chains)
	}
}
