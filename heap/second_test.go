package heap_test

import (
	"math/rand"
	"slices"
	"strings"
	"testing"

	"squinch/api"
	"squinch/heap"
	"squinch/hier"
)

// second is a second definition of a heap: it takes from hier the classes alone, and keeps no sums.
type second struct {
	table   *hier.Table
	room    int
	objects []object
}

// object has a value for each of its kinds.
type object struct {
	kind   string
	kinds  []string
	values []api.Value
}

func (s *second) left() int {
	left := s.room
	for _, o := range s.objects {
		left -= len(o.values) + 1
	}
	return left
}

// exists tells kinds, but null, by taking them apart.
func (s *second) exists(kind string) bool {
	for range 3 {
		kind = strings.TrimSuffix(kind, "[]")
	}
	_, ok := s.table.Get(kind)
	return ok || kind == "int" || kind == "bool" || kind == "text"
}

// above returns a class and everything above it, a class more than once if there is more than one way to it.
func (s *second) above(class string) []string {
	c, ok := s.table.Get(class)
	if !ok {
		return nil
	}
	l := append([]string{class}, s.above(c.Super)...)
	for _, like := range c.Like {
		l = append(l, s.above(like)...)
	}
	return l
}

func (s *second) fits(v api.Value, kind string) bool {
	switch k := s.of(v); {
	case k == "" || kind != "null" && !s.exists(kind):
		return false
	case k == kind:
		return true
	case k == "null":
		return kind != "int" && kind != "bool" && kind != "text"
	case strings.HasSuffix(k, "[]"):
		return kind == "Object"
	default:
		return slices.Contains(s.above(k), kind)
	}
}

func (s *second) of(v api.Value) string {
	switch {
	case v.Sort == 0 && v.N == 0 && v.S == "" && v.Ref == 0:
		return "null"
	case v.Sort == 1 && v.S == "" && v.Ref == 0:
		return "int"
	case v.Sort == 2 && v.S == "" && v.Ref == 0 && (v.N == 0 || v.N == 1):
		return "bool"
	// Whatever is not valid becomes other bytes on the way.
	case v.Sort == 3 && v.N == 0 && v.Ref == 0 && len(v.S) <= 4096 && string([]rune(v.S)) == v.S:
		return "text"
	case v.Sort == 4 && v.N == 0 && v.S == "" && v.Ref >= 0 && v.Ref < len(s.objects):
		return s.objects[v.Ref].kind
	}
	return ""
}

func (s *second) add(kind string, kinds []string) (int, api.Errno) {
	zero := map[string]api.Value{"int": {Sort: 1}, "bool": {Sort: 2}, "text": {Sort: 3}}
	o := object{kind: kind, kinds: kinds}
	for _, k := range kinds {
		o.values = append(o.values, zero[k])
	}
	s.objects = append(s.objects, o)
	if s.left() < 0 {
		s.objects = s.objects[:len(s.objects)-1]
		return 0, api.ErrHeapRoom
	}
	return len(s.objects) - 1, api.OK
}

func (s *second) object(class string) (int, api.Errno) {
	c, ok := s.table.Get(class)
	if !ok || c.Abstract {
		return 0, api.ErrHeapKind
	}
	var kinds []string
	for ok {
		var own []string
		for _, f := range c.Fields {
			own = append(own, f.Kind)
		}
		kinds = append(own, kinds...)
		c, ok = s.table.Get(c.Super)
	}
	return s.add(class, kinds)
}

func (s *second) array(elem string, n int64) (int, api.Errno) {
	switch {
	case !s.exists(elem) || strings.HasSuffix(elem, "[][][]"):
		return 0, api.ErrHeapKind
	case n < 0:
		return 0, api.ErrHeapPlace
	case n > 1<<20:
		return 0, api.ErrHeapRoom
	}
	return s.add(elem+"[]", slices.Repeat([]string{elem}, int(n)))
}

func (s *second) get(ref int, at int64) (api.Value, api.Errno) {
	if ref < 0 || ref >= len(s.objects) {
		return api.Value{}, api.ErrHeapRef
	}
	for i, v := range s.objects[ref].values {
		if int64(i) == at {
			return v, api.OK
		}
	}
	return api.Value{}, api.ErrHeapPlace
}

func (s *second) set(ref int, at int64, v api.Value) api.Errno {
	if _, e := s.get(ref, at); e != api.OK {
		return e
	}
	o := s.objects[ref]
	if !s.fits(v, o.kinds[at]) {
		return api.ErrHeapKind
	}
	o.values[at] = v
	return api.OK
}

func (s *second) cut(n int) {
	for i, o := range s.objects {
		for _, v := range o.values {
			if i < n && v.Sort == api.Ref && v.Ref >= n {
				return
			}
		}
	}
	for len(s.objects) > max(n, 0) {
		s.objects = s.objects[:len(s.objects)-1]
	}
}

// right reports whether cells are well-typed, and all of them are as in the second definition.
func (s *second) right(l []api.Cell) bool {
	return slices.EqualFunc(l, s.objects, func(c api.Cell, o object) bool {
		return c.Kind == o.kind && slices.Equal(c.Values, o.values) && slices.EqualFunc(c.Values, o.kinds, s.fits)
	})
}

// dice chooses at random, the same in each run.
type dice struct{ *rand.Rand }

func (d dice) pick(l ...string) string { return l[d.Intn(len(l))] }

// number is small most of the time.
func (d dice) number() int64 {
	if d.Intn(20) == 0 {
		return numbers()[d.Intn(len(numbers()))]
	}
	return int64(d.Intn(8)) - 1
}

var texts = []string{"", "a", "é", "\xff", "\xed\xa0\x80", strings.Repeat("é", 2048), strings.Repeat("x", 4097)}

func (d dice) value() api.Value {
	v := []api.Value{null, num(d.number()), flag(int64(d.Intn(2))), text(d.pick(texts...)), ref(int(d.number())), ref(d.Intn(12)), ref(d.Intn(12)), ref(d.Intn(12))}[d.Intn(8)]
	switch d.Intn(40) {
	case 0:
		v.Sort = int(d.number())
	case 1:
		v.N = d.number()
	case 2:
		v.S = d.pick(texts...)
	case 3:
		v.Ref = int(d.number())
	}
	return v
}

// checkSame checks that all that may be asked of two heaps is the same.
func checkSame(t *testing.T, h *heap.Heap, s *second, d dice) {
	t.Helper()
	if h.Len() != len(s.objects) || h.Left() != s.left() || !h.Right() || !s.right(h.Cells()) {
		t.Fatalf("%d objects, %d left, right: %v\n%.500v, want\n%.500v", h.Len(), h.Left(), h.Right(), h.Cells(), s.objects)
	}
	n, at := int(d.number()), d.number()
	got, e := h.Get(n, at)
	want, wantE := s.get(n, at)
	if got != want || e != wantE {
		t.Fatalf("Get(%d, %d) = %.80v, %d, want %.80v, %d", n, at, got, e, want, wantE)
	}
	v, kind := d.value(), d.pick("int", "bool", "text", "null", "A", "B", "I", "Object", "Fault", "A[]", "int[]", "Z", "A[][][][]", "")
	if h.Of(v) != s.of(v) || h.Fits(v, kind) != s.fits(v, kind) {
		t.Fatalf("%.80v: Of is %q, Fits for %s %v", v, h.Of(v), kind, h.Fits(v, kind))
	}
}

// call makes one random call of a heap and of its second definition, and returns what it was, the error, and whether both agree.
func (d dice) call(h *heap.Heap, s *second) (string, api.Errno, bool) {
	classes := append(h.Table().Names(), strings.Fields("Z int null A[] C C D D D B B B")...)
	elems := strings.Fields("int bool text A B I Object C[] int[] A[][] int[][][] null Z E")
	switch d.Intn(20) {
	case 0, 1, 2:
		class := d.pick(classes...)
		n, e := h.Object(class)
		want, wantE := s.object(class)
		return "object", e, n == want && e == wantE
	case 3, 4:
		elem, size := d.pick(elems...), d.number()
		n, e := h.Array(elem, size)
		want, wantE := s.array(elem, size)
		return "array", e, n == want && e == wantE
	case 5:
		n, before := h.Len()-d.Intn(6), h.Len()
		if d.Intn(12) == 0 {
			n = int(d.number())
		}
		h.Cut(n)
		s.cut(n)
		if n < before && h.Len() == before {
			return "cut that removes nothing", api.OK, true
		}
		return "cut", api.OK, true
	default:
		n, at, v := int(d.number()), d.number(), d.value()
		if h.Len() > 0 && d.Intn(8) > 0 {
			n = d.Intn(h.Len())
			at = int64(d.Intn(h.Size(n) + 1))
			for range d.Intn(6) {
				if at < int64(h.Size(n)) && !s.fits(v, s.objects[n].kinds[at]) {
					v = d.value()
				}
			}
		}
		e := h.Set(n, at, v)
		return "set", e, e == s.set(n, at, v)
	}
}

// P9.1 to P9.4: random calls, by the second definition.
func TestRandomCalls(t *testing.T) {
	table, d := zoo(t), dice{rand.New(rand.NewSource(9))}
	seen := map[string]map[api.Errno]int{}
	for range 250 {
		room := d.Intn(120)
		h, _ := heap.New(table, room)
		s := &second{table: table, room: room}
		for range 120 {
			what, e, same := d.call(h, s)
			if !same {
				t.Fatalf("%s: %d in %.500v", what, e, s.objects)
			}
			if seen[what] == nil {
				seen[what] = map[api.Errno]int{}
			}
			seen[what][e]++
			checkSame(t, h, s, d)
		}
	}
	if len(seen["object"]) != 3 || len(seen["array"]) != 4 || len(seen["set"]) != 4 || seen["set"][api.OK] < 2000 || seen["cut"][api.OK] < 1000 || seen["cut that removes nothing"][api.OK] < 100 {
		t.Errorf("calls by error: %v", seen)
	}
}
