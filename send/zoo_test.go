package send_test

import (
	"math"
	"slices"
	"strings"
	"testing"

	"squinch/api"
	"squinch/heap"
	"squinch/hier"
)

var null = api.Value{}

func num(n int64) api.Value { return api.Value{Sort: api.Int, N: n} }

func flag(n int64) api.Value { return api.Value{Sort: api.Bool, N: n} }

func text(s string) api.Value { return api.Value{Sort: api.Text, S: s} }

func ref(n int) api.Value { return api.Value{Sort: api.Ref, Ref: n} }

func refs(l ...int) []api.Value {
	var values []api.Value
	for _, n := range l {
		values = append(values, ref(n))
	}
	return values
}

// wide are limits that nothing exceeds.
var wide = api.Limits{Objects: math.MaxInt64, Bytes: math.MaxInt64}

// class returns a class from texts such as "B A" (B derived from A) and, for its fields, "x:int" and "-x:int"; the latter is Transient.
func class(name string, fields ...string) api.Class {
	c := api.Class{}
	c.Name, c.Super, _ = strings.Cut(name, " ")
	if c.Super == "" {
		c.Super = "Object"
	}
	for _, s := range fields {
		s, transient := strings.CutPrefix(s, "-")
		name, kind, _ := strings.Cut(s, ":")
		c.Fields = append(c.Fields, api.Field{Name: name, Kind: kind, Transient: transient})
	}
	return c
}

func table(t testing.TB, l ...api.Class) *hier.Table {
	t.Helper()
	h, at, e := hier.New(l)
	if e != api.OK {
		t.Fatal(at, e)
	}
	return h
}

// zoo returns the table of most tests: N is a node with two references, L one of a list, M has Transient fields before, between and behind those of its own that are sent, V has a value of each kind, and none of what O has is sent.
func zoo(t testing.TB) *hier.Table {
	return table(t,
		class("N", "a:Object", "x:int", "b:Object"),
		class("M N", "-t:Object", "s:text", "-u:int", "c:M", "-v:Object[]"),
		class("L", "next:L"),
		class("V", "n:int", "b:bool", "s:text", "o:Object"),
		class("O", "-t:Object", "-x:int"),
		class("P O", "ok:bool"),
		class("E"),
	)
}

// The layouts of the zoo.
const (
	printN = "N() a:Object x:int b:Object."
	printM = "M(N() a:Object x:int b:Object.) s:text c:M."
	printL = "L() next:L."
	printV = "V() n:int b:bool s:text o:Object."
	printP = "P(O().) ok:bool."
)

// filled returns a heap with objects of these kinds, all of them with their initial values; int[3] is an array with three elements.
func filled(t testing.TB, table *hier.Table, kinds ...string) *heap.Heap {
	t.Helper()
	h, e := heap.New(table, 20000)
	if e != api.OK {
		t.Fatal(e)
	}
	for i, kind := range kinds {
		if n, e := create(h, kind); n != i || e != api.OK {
			t.Fatalf("%s: %d, %d", kind, n, e)
		}
	}
	return h
}

func create(h *heap.Heap, kind string) (int, api.Errno) {
	if !strings.HasSuffix(kind, "]") {
		return h.Object(kind)
	}
	at := strings.LastIndex(kind, "[")
	return h.Array(kind[:at], int64(kind[at+1]-'0'))
}

func zooHeap(t testing.TB, kinds ...string) *heap.Heap {
	t.Helper()
	return filled(t, zoo(t), kinds...)
}

func set(t testing.TB, h *heap.Heap, ref int, at int64, v api.Value) {
	t.Helper()
	if e := h.Set(ref, at, v); e != api.OK {
		t.Fatalf("Set(%d, %d, %.50v) of %s: %d", ref, at, v, h.Kind(ref), e)
	}
}

// link lets slots refer to objects: each link has an object, the index of a slot, and the object to which it is to refer.
func link(t testing.TB, h *heap.Heap, links ...[3]int) {
	t.Helper()
	for _, l := range links {
		set(t, h, l[0], int64(l[1]), ref(l[2]))
	}
}

// plain are valid values that are not references, all different.
func plain() []api.Value {
	return []api.Value{
		null, num(0), num(1), num(-1), num(4), num(63), num(64), num(-64), num(-65), num(math.MaxInt64), num(math.MinInt64), num(1 << 53), flag(0), flag(1),
		text(""), text("a"), text("é"), text("a\x00"), text("\x00"), text(strings.Repeat("x", 127)), text(strings.Repeat("x", 128)), text(strings.Repeat("é", api.MaxText/2)),
	}
}

// wrong are values that are not valid and not references.
func wrong() []api.Value {
	return []api.Value{
		{N: 1}, {S: "a"}, {Ref: 1}, {Sort: api.Int, Ref: 1}, {Sort: api.Int, S: "a"}, flag(2), flag(-1), flag(256), {Sort: api.Bool, S: "a"}, {Sort: api.Bool, Ref: 1}, {Sort: api.Text, N: 1}, {Sort: api.Text, Ref: 2},
		text("\xff"), text("a\xc3"), text("\xed\xa0\x80"), text(strings.Repeat("x", api.MaxText+1)),
		{Sort: 5}, {Sort: 5, Ref: 1}, {Sort: -1}, {Sort: 8}, {Sort: 4 << 8}, {Sort: 1<<32 + 4}, {Sort: math.MaxInt64}, {Sort: math.MinInt64, N: 3, S: "x", Ref: 9},
	}
}

// nowhere are references to no object of a heap with at most 60 objects.
func nowhere(h *heap.Heap) []api.Value {
	l := []api.Value{ref(h.Len()), {Sort: api.Ref, Ref: h.Len(), N: 1}, {Sort: api.Ref, Ref: -1, S: "a"}}
	return append(l, refs(-1, -2, 63, 64, 1<<20, 1<<32, -1<<32, math.MaxInt32, math.MinInt32, math.MaxInt64, math.MinInt64)...)
}

// odd are references to an object that have something besides, and so are not valid.
func odd(n int) []api.Value {
	return []api.Value{{Sort: api.Ref, Ref: n, N: 1}, {Sort: api.Ref, Ref: n, N: -1}, {Sort: api.Ref, Ref: n, S: "a"}, {Sort: api.Ref, Ref: n, N: 5, S: "\xff"}}
}

func sameCells(a, b []api.Cell) bool {
	return slices.EqualFunc(a, b, func(x, y api.Cell) bool { return x.Kind == y.Kind && slices.Equal(x.Values, y.Values) })
}

// join puts the parts of an encoding together: numbers below 128, strings with their lengths, and bytes as they are.
func join(parts ...any) string {
	var b strings.Builder
	for _, part := range parts {
		switch x := part.(type) {
		case int:
			b.WriteByte(byte(x))
		case string:
			b.WriteByte(byte(len(x)))
			b.WriteString(x)
		case []byte:
			b.Write(x)
		}
	}
	return b.String()
}
