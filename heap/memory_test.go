package heap_test

import (
	"strings"
	"testing"
	"unsafe"

	"squinch/api"
	"squinch/heap"
)

// A list of objects may be changed, with its unused capacity: the heap keeps its own values.
func TestMemoryOfCells(t *testing.T) {
	h := zooHeap(t)
	set(t, h, 0, 3, text("word"))
	want, other := h.Cells(), h.Cells()
	got := h.Cells()
	for i, c := range got {
		values := c.Values[:cap(c.Values)]
		for k := range values {
			values[k] = num(77)
		}
		_ = append(c.Values, num(78))
		got[i] = api.Cell{Kind: "changed"}
	}
	_ = append(got, api.Cell{Kind: "changed"})
	if !sameCells(h.Cells(), want) || !sameCells(other, want) || !h.Right() {
		t.Errorf("%v, want %v", h.Cells(), want)
	}
	// Nor do later calls change what was given out.
	set(t, h, 0, 0, num(5))
	set(t, h, 8, 1, ref(0))
	h.Object("E")
	if !sameCells(other, want) {
		t.Error("what was given out changed")
	}
	h.Cut(-1)
	h.Object("D")
	if !sameCells(other, want) {
		t.Error("what was given out changed")
	}
}

// A string that was given is copied, as it may be a part of a far longer one.
func TestStringsAreCopied(t *testing.T) {
	same := func(a, b string) bool { return unsafe.StringData(a) == unsafe.StringData(b) }
	h := empty(t, 20)
	class, elem, s := string([]byte("Bad")), string([]byte("A")), string([]byte("what"))
	h.Object(class)
	h.Array(elem, 1)
	set(t, h, 0, 0, text(s))
	v, _ := h.Get(0, 0)
	if same(h.Kind(0), class) || same(h.Cells()[0].Kind, class) || same(h.Kind(1), elem) || same(v.S, s) || same(h.Cells()[0].Values[0].S, s) {
		t.Error("the heap keeps a string that it was given")
	}
	if h.Kind(0) != "Bad" || h.Kind(1) != "A[]" || v.S != "what" {
		t.Error(h.Cells())
	}
}

// Values are copied: what was returned does not follow later changes.
func TestValuesAreCopied(t *testing.T) {
	h := filled(t, 20, "C", "Fault")
	set(t, h, 1, 0, text("old"))
	before, _ := h.Get(1, 0)
	set(t, h, 1, 0, text("new"))
	after, _ := h.Get(1, 0)
	if before != text("old") || after != text("new") {
		t.Error(before, after)
	}
}

// P1: whatever the calls are given, in an empty heap and in one with objects.
func TestNonsense(t *testing.T) {
	for _, h := range []*heap.Heap{empty(t, 0), empty(t, 100), zooHeap(t)} {
		texts := append(strange(), "int", "A", "B", "A[]", "null")
		values := append(wrongValues(), null, num(1), text("a"), ref(0))
		for _, n := range numbers() {
			for _, at := range numbers() {
				h.Get(int(n), at)
				for _, v := range values[:40] {
					h.Set(int(n), at, v)
				}
			}
			h.Kind(int(n))
			h.Size(int(n))
			for _, s := range texts {
				h.Array(s, n)
			}
		}
		for _, s := range texts {
			h.Object(s)
			heap.Zero(s)
			for _, v := range values {
				h.Fits(v, s)
			}
		}
		if !h.Right() || h.Left() < 0 {
			t.Errorf("%d left of a heap that is right: %v", h.Left(), h.Right())
		}
		for _, n := range numbers() {
			h.Cut(int(n))
		}
		if h.Len() != 0 {
			t.Errorf("%d objects", h.Len())
		}
	}
	// Texts of any length are no longer than they may be, or rejected.
	h := filled(t, 10, "Fault")
	for _, n := range []int{api.MaxText + 1, 1 << 16, 1 << 24} {
		if e := h.Set(0, 0, text(strings.Repeat("x", n))); e != api.ErrHeapKind {
			t.Errorf("a text of %d bytes: %d", n, e)
		}
	}
}
