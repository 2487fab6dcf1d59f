package heap_test

import (
	"fmt"
	"math"
	"strings"
	"testing"

	"squinch/api"
	"squinch/heap"
	"squinch/hier"
)

// deepHeap returns a heap for classes L0, L1 .. of which each is derived from the one before, with as many fields as may be: int and text by turns.
func deepHeap(t testing.TB, deep int) *heap.Heap {
	t.Helper()
	var l []api.Class
	for i := range deep {
		c := api.Class{Name: fmt.Sprint("L", i), Super: fmt.Sprint("L", i-1)}
		if i == 0 {
			c.Super = "Object"
		}
		for k := range api.MaxParts {
			c.Fields = append(c.Fields, api.Field{Name: fmt.Sprint("f", i, "x", k), Kind: []string{"int", "text"}[k%2]})
		}
		l = append(l, c)
	}
	table, at, e := hier.New(l)
	if e != api.OK {
		t.Fatal(at, e)
	}
	h, e := heap.New(table, api.MaxRoom)
	if e != api.OK {
		t.Fatal(e)
	}
	return h
}

// zooKinds are the kinds of the objects 0, 1 .. of zooHeap.
var zooKinds = strings.Fields("B C D E Object Fault ZeroFault Bad A[] B[] I[] Object[] int[] int[][] int[][][] bool[] text[][] E[][][]")

func zooHeap(t testing.TB) *heap.Heap {
	t.Helper()
	return filled(t, 1000, zooKinds...)
}

// rightValues are valid values in zooHeap, by their kinds.
func rightValues() map[string][]api.Value {
	long := strings.Repeat("x", api.MaxText)
	l := map[string][]api.Value{
		"null": {null}, "bool": {flag(0), flag(1)},
		"text": {text(""), text("a"), text("\x00"), text("é€😀"), text("\ufffd"), text("\U0010ffff"), text("\ud7ff\ue000"), text(long), text(long[2:] + "é")},
	}
	for _, n := range numbers() {
		l["int"] = append(l["int"], num(n))
	}
	for i, kind := range zooKinds {
		l[kind] = append(l[kind], ref(i))
	}
	return l
}

// wrongValues are values that are not valid in zooHeap.
func wrongValues() []api.Value {
	long := strings.Repeat("x", api.MaxText)
	l := []api.Value{
		text("\xff"), text("a\x80"), text("\xc3"), text("é\xe2\x82"), text("\xc0\x80"), text("\xe0\x80\x80"), text("\xed\xa0\x80"), text("\xed\xbf\xbf"), text("\xf4\x90\x80\x80"), text("\xf8\x88\x80\x80\x80"),
		text(long + "x"), text(long[1:] + "é"), text(long + long), text(strings.Repeat("x", 1<<20)), text(long[1:] + "\xff"),
	}
	for _, n := range numbers() {
		if n != 0 {
			l = append(l, api.Value{N: n}, api.Value{Sort: api.Text, S: "a", N: n}, api.Value{Sort: api.Text, N: n}, api.Value{Sort: api.Ref, Ref: 1, N: n}, api.Value{Sort: api.Ref, N: n})
			l = append(l, api.Value{Ref: int(n)}, api.Value{Sort: api.Int, Ref: int(n)}, api.Value{Sort: api.Int, N: 7, Ref: int(n)}, api.Value{Sort: api.Bool, Ref: int(n)}, api.Value{Sort: api.Bool, N: 1, Ref: int(n)}, api.Value{Sort: api.Text, S: "a", Ref: int(n)}, api.Value{Sort: api.Text, Ref: int(n)})
		}
		if n != 0 && n != 1 {
			l = append(l, flag(n))
		}
		if n < 0 || n >= int64(len(zooKinds)) {
			l = append(l, ref(int(n)))
		}
		if n < api.Null || n > api.Ref {
			l = append(l, api.Value{Sort: int(n)}, api.Value{Sort: int(n), N: 1}, api.Value{Sort: int(n), S: "a"}, api.Value{Sort: int(n), Ref: 1})
		}
	}
	for _, s := range []string{"a", "\x00", "null", "\xff", long} {
		l = append(l, api.Value{S: s}, api.Value{Sort: api.Int, S: s}, api.Value{Sort: api.Int, N: 1, S: s}, api.Value{Sort: api.Bool, S: s}, api.Value{Sort: api.Bool, N: 1, S: s}, api.Value{Sort: api.Ref, S: s}, api.Value{Sort: api.Ref, Ref: 1, S: s})
	}
	return append(l, ref(len(zooKinds)), api.Value{Sort: 5}, api.Value{Sort: api.Text, N: 1, S: "a", Ref: 1})
}

// P9.2
func TestOf(t *testing.T) {
	h := zooHeap(t)
	unchanged(t, h, func() {
		for kind, l := range rightValues() {
			for _, v := range l {
				if got := h.Of(v); got != kind {
					t.Errorf("Of(%.80v) = %q, want %q", v, got, kind)
				}
			}
		}
		for _, v := range wrongValues() {
			if got := h.Of(v); got != "" {
				t.Errorf("Of(%.80v) = %q", v, got)
			}
		}
	})
}

// P9.2: a reference is valid as long as its object exists.
func TestOfReferences(t *testing.T) {
	h := empty(t, 100)
	check := func(want string) {
		t.Helper()
		if got := h.Of(ref(0)); got != want || h.Fits(ref(0), "Object") != (want != "") {
			t.Errorf("Of(0) = %q, want %q", got, want)
		}
	}
	check("")
	h.Object("E")
	check("E")
	h.Cut(0)
	check("")
	h.Array("E", 1)
	check("E[]")
}

// P9.2: all kinds of values and all kinds, by the subkinds of chapter 6.
func TestFits(t *testing.T) {
	h := zooHeap(t)
	unchanged(t, h, func() {
		for kind, l := range rightValues() {
			for _, v := range l {
				for _, k := range kinds(t) {
					if got := h.Fits(v, k); got != h.Table().Sub(kind, k) {
						t.Errorf("Fits(%.80v, %s) = %v", v, k, got)
					}
				}
				for _, k := range strange() {
					if h.Fits(v, k) {
						t.Errorf("Fits(%.80v, %.50q) = true", v, k)
					}
				}
			}
		}
		for _, v := range wrongValues() {
			for _, k := range append(kinds(t), strange()...) {
				if h.Fits(v, k) {
					t.Errorf("Fits(%.80v, %.50q) = true", v, k)
				}
			}
		}
	})
}

// P9.2: what fits, told one by one.
func TestFitsByCase(t *testing.T) {
	h := zooHeap(t)
	all := kinds(t)
	for _, x := range []struct {
		v    api.Value
		fits string
	}{
		{num(7), "int"}, {flag(1), "bool"}, {text("a"), "text"},
		{null, "null " + strings.Join(h.Table().Names(), " ") + " A[] A[][] B[] D[] I[] E[][][] Object[] int[] int[][] int[][][] bool[] text[] text[][]"},
		{ref(0), "B A I Object"}, {ref(1), "C A Object"}, {ref(2), "D B A I J Object"}, {ref(3), "E Object"}, {ref(4), "Object"}, {ref(5), "Fault Object"}, {ref(6), "ZeroFault Fault Object"}, {ref(7), "Bad Fault Object"},
		{ref(8), "A[] Object"}, {ref(9), "B[] Object"}, {ref(10), "I[] Object"}, {ref(11), "Object[] Object"}, {ref(12), "int[] Object"}, {ref(13), "int[][] Object"}, {ref(14), "int[][][] Object"}, {ref(15), "bool[] Object"}, {ref(16), "text[][] Object"}, {ref(17), "E[][][] Object"},
	} {
		for _, k := range all {
			want := strings.Contains(" "+x.fits+" ", " "+k+" ")
			if got := h.Fits(x.v, k); got != want {
				t.Errorf("Fits(%v, %s) = %v", x.v, k, got)
			}
		}
	}
}

// P9.2
func TestZero(t *testing.T) {
	special := map[string]api.Value{"int": num(0), "bool": flag(0), "text": text("")}
	h := empty(t, 0)
	for _, k := range append(kinds(t), strange()...) {
		got := heap.Zero(k)
		if got != special[k] {
			t.Errorf("Zero(%.50q) = %v", k, got)
		}
		if h.Table().Kind(k) && !h.Fits(got, k) {
			t.Errorf("Zero(%.50q) = %v, which does not fit", k, got)
		}
	}
}

// P9.2: all values into the fields and elements of all kinds.
func TestSetAndGet(t *testing.T) {
	h := zooHeap(t)
	values := []api.Value{}
	for _, l := range rightValues() {
		values = append(values, l...)
	}
	values = append(values, wrongValues()...)
	did := map[api.Errno]int{}
	for n, kind := range zooKinds {
		elem, isArray := strings.CutSuffix(kind, "[]")
		places := strings.Fields(layouts[kind])
		if isArray {
			places = []string{elem, elem}
		}
		for at, k := range places {
			for _, v := range values {
				before, _ := h.Get(n, int64(at))
				want, left := api.ErrHeapKind, before
				if h.Fits(v, k) {
					want, left = api.OK, v
				}
				if e := h.Set(n, int64(at), v); e != want {
					t.Errorf("Set(%d, %d, %.80v): %d, of kind %s", n, at, v, e, k)
				}
				if got, e := h.Get(n, int64(at)); got != left || e != api.OK {
					t.Errorf("Get(%d, %d): %.80v, %d, want %.80v", n, at, got, e, left)
				}
				did[want]++
			}
			set(t, h, n, int64(at), heap.Zero(k))
		}
	}
	if did[api.OK] < 200 || did[api.ErrHeapKind] < 1000 {
		t.Errorf("values by error: %v", did)
	}
	if !h.Right() || !sameCells(h.Cells(), zooHeap(t).Cells()) {
		t.Error("the heap changed")
	}
}

// P9.2: one field or element is changed, and no other one.
func TestSetChangesOnePlace(t *testing.T) {
	h := zooHeap(t)
	want := h.Cells()
	for n, c := range want {
		for at := range c.Values {
			v := null
			switch c.Values[at].Sort {
			case api.Int:
				v = num(int64(100*n + at))
			case api.Bool:
				v = flag(1)
			case api.Text:
				v = text(fmt.Sprint(n, at))
			}
			set(t, h, n, int64(at), v)
			want[n].Values[at] = v
			if !sameCells(h.Cells(), want) {
				t.Errorf("Set(%d, %d, %v): %v", n, at, v, h.Cells())
			}
		}
	}
}

// P9.2: an object that does not exist before a place that does not exist before a value that does not fit.
func TestGetAndSetErrors(t *testing.T) {
	h := zooHeap(t)
	unchanged(t, h, func() {
		for _, n := range append(numbers(), int64(len(zooKinds))) {
			for _, at := range append(numbers(), 4, 5, 6, 7) {
				want := api.ErrHeapPlace
				switch {
				case n < 0 || n >= int64(len(zooKinds)):
					want = api.ErrHeapRef
				case 0 <= at && at < int64(h.Size(int(n))):
					want = api.OK
				}
				if v, e := h.Get(int(n), at); e != want || e != api.OK && v != null {
					t.Errorf("Get(%d, %d): %v, %d, want %d", n, at, v, e, want)
				}
				if want == api.OK {
					want = api.ErrHeapKind
				}
				for _, v := range []api.Value{ref(99), {Sort: 9}, {N: 1}, text("\xff")} {
					if e := h.Set(int(n), at, v); e != want {
						t.Errorf("Set(%d, %d, %v): %d, want %d", n, at, v, e, want)
					}
				}
				for _, v := range []api.Value{null, num(1), ref(0)} {
					if e := h.Set(int(n), at, v); want != api.ErrHeapKind && e != want {
						t.Errorf("Set(%d, %d, %v): %d, want %d", n, at, v, e, want)
					} else if e == api.OK {
						h.Set(int(n), at, heap.Zero(fieldKind(h, int(n), int(at))))
					}
				}
			}
		}
	})
}

func fieldKind(h *heap.Heap, n, at int) string {
	if elem, isArray := strings.CutSuffix(h.Kind(n), "[]"); isArray {
		return elem
	}
	return strings.Fields(layouts[h.Kind(n)])[at]
}

// P9.2: objects without fields and arrays without elements have no places.
func TestNoPlaces(t *testing.T) {
	h := filled(t, 10, "E", "Object")
	h.Array("int", 0)
	for n := range 3 {
		for _, at := range numbers() {
			if v, e := h.Get(n, at); v != null || e != api.ErrHeapPlace {
				t.Errorf("Get(%d, %d): %v, %d", n, at, v, e)
			}
			if e := h.Set(n, at, num(0)); e != api.ErrHeapPlace {
				t.Errorf("Set(%d, %d): %d", n, at, e)
			}
		}
		if h.Size(n) != 0 {
			t.Errorf("Size(%d) = %d", n, h.Size(n))
		}
	}
}

// P9.2
func TestKindAndSize(t *testing.T) {
	h := zooHeap(t)
	for n, kind := range zooKinds {
		want := len(strings.Fields(layouts[kind]))
		if strings.HasSuffix(kind, "[]") {
			want = 2
		}
		if h.Kind(n) != kind || h.Size(n) != want {
			t.Errorf("%d: %s of %d, want %s of %d", n, h.Kind(n), h.Size(n), kind, want)
		}
	}
	for _, n := range []int{-1, -2, len(zooKinds), len(zooKinds) + 1, 1 << 20, 1 << 32, -1 << 32, math.MaxInt, math.MinInt} {
		if h.Kind(n) != "" || h.Size(n) != 0 {
			t.Errorf("%d: %s of %d", n, h.Kind(n), h.Size(n))
		}
		if e := empty(t, 10); e.Kind(n) != "" || e.Size(n) != 0 || e.Kind(0) != "" || e.Size(0) != 0 {
			t.Errorf("%d exists in an empty heap", n)
		}
	}
}
