package take_test

import (
	"encoding/binary"
	"fmt"
	"math"
	"slices"
	"strings"
	"testing"

	"squinch/api"
	"squinch/heap"
	"squinch/hier"
)

var null = api.Value{}

func num(n int64) api.Value { return api.Value{Sort: api.Int, N: n} }

func flag(n int64) api.Value { return api.Value{Sort: api.Bool, N: n} }

func text(s string) api.Value { return api.Value{Sort: api.Text, S: s} }

func ref(n int) api.Value { return api.Value{Sort: api.Ref, Ref: n} }

func refs(l ...int) []api.Value {
	var values []api.Value
	for _, n := range l {
		values = append(values, ref(n))
	}
	return values
}

// wide are limits that nothing exceeds.
var wide = api.Limits{Objects: math.MaxInt64, Bytes: math.MaxInt64}

// class returns a class from texts such as "B A I" (B derived from A, with the interface I) and, for its fields, "x:int" and "-x:int"; the latter is Transient. An asterisk before the name makes the class Abstract.
func class(name string, fields ...string) api.Class {
	name, abstract := strings.CutPrefix(name, "*")
	words := strings.Fields(name + " Object")
	c := api.Class{Name: words[0], Super: words[1], Abstract: abstract}
	if len(words) > 3 {
		c.Like = words[2 : len(words)-1]
	}
	for _, s := range fields {
		s, transient := strings.CutPrefix(s, "-")
		name, kind, _ := strings.Cut(s, ":")
		c.Fields = append(c.Fields, api.Field{Name: name, Kind: kind, Transient: transient})
	}
	return c
}

func table(t testing.TB, l ...api.Class) *hier.Table {
	t.Helper()
	h, at, e := hier.New(l)
	if e != api.OK {
		t.Fatal(at, e)
	}
	return h
}

// zoo returns the table of most tests: N is a node with two references, L one of a list, M has Transient fields before, between and behind those of its own that are sent, V has a value of each kind, none of what O has is sent, D is abstract, J and Q have the interface I, and K has a field for each sort of kinds.
func zoo(t testing.TB) *hier.Table {
	return table(t,
		class("N", "a:Object", "x:int", "b:Object"),
		class("M N", "-t:Object", "s:text", "-u:int", "c:M", "-v:Object[]"),
		class("L", "next:L"),
		class("V", "n:int", "b:bool", "s:text", "o:Object"),
		class("O", "-t:Object", "-x:int", "-s:text", "-b:bool"),
		class("P O", "ok:bool"),
		class("E"),
		api.Class{Name: "I", Super: "Object", Interface: true, Abstract: true},
		class("*D L"),
		class("J Object I"),
		class("Q D I"),
		class("K", "i:I", "d:D", "l:L[]", "f:Fault", "o:Object[]"),
	)
}

// The layouts of the zoo.
const (
	printN = "N() a:Object x:int b:Object."
	printM = "M(N() a:Object x:int b:Object.) s:text c:M."
	printL = "L() next:L."
	printV = "V() n:int b:bool s:text o:Object."
	printP = "P(O().) ok:bool."
	printQ = "Q(D(L() next:L.).)."
	printK = "K() i:I d:D l:L[] f:Fault o:Object[]."
)

// filled returns a heap with objects of these kinds, all of them with their initial values; int[3] is an array with three elements.
func filled(t testing.TB, table *hier.Table, room int, kinds ...string) *heap.Heap {
	t.Helper()
	h, e := heap.New(table, room)
	if e != api.OK {
		t.Fatal(e)
	}
	for i, kind := range kinds {
		if n, e := create(h, kind); n != i || e != api.OK {
			t.Fatalf("%s: %d, %d", kind, n, e)
		}
	}
	return h
}

func create(h *heap.Heap, kind string) (int, api.Errno) {
	if !strings.HasSuffix(kind, "]") {
		return h.Object(kind)
	}
	at := strings.LastIndex(kind, "[")
	return h.Array(kind[:at], int64(kind[at+1]-'0'))
}

func zooHeap(t testing.TB, kinds ...string) *heap.Heap {
	t.Helper()
	return filled(t, zoo(t), 20000, kinds...)
}

func set(t testing.TB, h *heap.Heap, ref int, at int64, v api.Value) {
	t.Helper()
	if e := h.Set(ref, at, v); e != api.OK {
		t.Fatalf("Set(%d, %d, %.50v) of %s: %d", ref, at, v, h.Kind(ref), e)
	}
}

// link lets slots refer to objects: each link has an object, the index of a slot, and the object to which it is to refer.
func link(t testing.TB, h *heap.Heap, links ...[3]int) {
	t.Helper()
	for _, l := range links {
		set(t, h, l[0], int64(l[1]), ref(l[2]))
	}
}

// used returns a heap that is not empty, with references to all that it has, and with this room left.
func used(t testing.TB, table *hier.Table, left int) *heap.Heap {
	t.Helper()
	h := filled(t, table, left+10, "Fault", "Object[4]", "ZeroFault", "Object")
	set(t, h, 0, 0, text("old"))
	link(t, h, [3]int{1, 0, 0}, [3]int{1, 1, 1}, [3]int{1, 2, 2}, [3]int{1, 3, 3})
	return h
}

// usedObjects is the number of objects of a used heap.
const usedObjects = 4

func sameCells(a, b []api.Cell) bool {
	return slices.EqualFunc(a, b, func(x, y api.Cell) bool { return x.Kind == y.Kind && slices.Equal(x.Values, y.Values) })
}

// varint returns the encoding of a number.
func varint(n uint64) []byte { return binary.AppendUvarint(nil, n) }

// join puts the parts of an encoding together: numbers as varints, strings with their lengths, and bytes as they are.
func join(parts ...any) []byte {
	var b []byte
	for _, part := range parts {
		switch x := part.(type) {
		case int:
			b = append(b, varint(uint64(x))...)
		case string:
			b = append(b, varint(uint64(len(x)))...)
			b = append(b, x...)
		case []byte:
			b = append(b, x...)
		}
	}
	return b
}

// broken are encodings that no number has: they end too early, are too long, or are those of numbers that are too great.
func broken() [][]byte {
	nines := strings.Repeat("\xff", 9)
	var l [][]byte
	for _, s := range []string{"", "\x80", "\xff\xff", nines, "\x80\x00", "\x81\x00", "\x83\x80\x00", nines + "\x00", nines + "\x02", nines + "\x7f", nines + "\x80\x01", nines + "\xff\xff\x01"} {
		l = append(l, []byte(s))
	}
	return l
}

// short returns the beginning of what a value is printed as.
func short(x any) string { return fmt.Sprintf("%.1000s", fmt.Sprint(x)) }

// checkUnchanged calls f and checks that the heap is the same before and after.
func checkUnchanged(t *testing.T, h *heap.Heap, f func()) {
	t.Helper()
	n, left, cells := h.Len(), h.Left(), h.Cells()
	f()
	if h.Len() != n || h.Left() != left || !sameCells(h.Cells(), cells) {
		t.Errorf("%s became %s", short(cells), short(h.Cells()))
	}
}
