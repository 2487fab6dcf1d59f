package send_test

import (
	"math"
	"testing"

	"squinch/api"
	"squinch/heap"
	"squinch/send"
)

// ring returns a heap with n objects, each of which refers to the next one.
func ring(t *testing.T, n int) *heap.Heap {
	t.Helper()
	h := zooHeap(t)
	for range n {
		h.Object("L")
	}
	for k := range n {
		set(t, h, k, 0, ref((k+1)%n))
	}
	return h
}

// P12.1: as many objects as the limit are not too many; objects that are not reachable do not count.
func TestErrSendMany(t *testing.T) {
	h := ring(t, 5)
	h.Object("E")
	for most := range 9 {
		limits := api.Limits{Objects: most, Bytes: math.MaxInt64}
		for _, c := range []struct {
			l     []api.Value
			needs int
		}{{nil, 0}, {[]api.Value{num(1)}, 0}, {refs(5), 1}, {refs(3), 5}, {refs(3, 1, 2), 5}, {refs(5, 5), 1}, {refs(0, 5), 6}, {refs(5, 0), 6}} {
			if most < c.needs {
				checkError(t, h, c.l, limits, api.ErrSendMany)
			} else if b, e := send.Some(h, c.l, limits); len(b) == 0 || e != api.OK {
				t.Errorf("%v with %v: %q, %d", c.l, limits, b, e)
			}
		}
	}
}

// P12.1: below 0, even no objects are too many, and no bytes too few.
func TestNegativeLimits(t *testing.T) {
	h := ring(t, 1)
	for _, n := range []int{-1, -2, math.MinInt32, math.MinInt64, math.MinInt64 + 1} {
		for _, l := range [][]api.Value{nil, {null}, refs(0)} {
			checkError(t, h, l, api.Limits{Objects: n, Bytes: math.MaxInt64}, api.ErrSendMany)
			checkError(t, h, l, api.Limits{Objects: n, Bytes: n}, api.ErrSendMany)
			checkError(t, h, l, api.Limits{Objects: math.MaxInt64, Bytes: n}, api.ErrSendLong)
		}
	}
}

// P12.1: every number of bytes that is too small, and the first one that is not.
func TestErrSendLong(t *testing.T) {
	h := zooHeap(t, "N", "M", "Object[4]", "E", "V", "int[9]")
	link(t, h, [3]int{0, 0, 1}, [3]int{0, 2, 2}, [3]int{1, 6, 1}, [3]int{2, 0, 4}, [3]int{2, 3, 5}, [3]int{2, 1, 3}, [3]int{4, 3, 0})
	set(t, h, 4, 0, num(math.MinInt64))
	set(t, h, 4, 1, flag(1))
	set(t, h, 4, 2, text("a text"))
	for _, l := range [][]api.Value{nil, {null}, {num(-1 << 40)}, {text("another text")}, refs(0), refs(5), refs(3, 4), {ref(4), num(300), text("end")}} {
		whole, e := send.Some(h, l, wide)
		if e != api.OK {
			t.Fatal(e)
		}
		for most := range whole {
			checkError(t, h, l, api.Limits{Objects: 6, Bytes: most}, api.ErrSendLong)
		}
		for _, most := range []int{len(whole), len(whole) + 1, math.MaxInt64} {
			if b, e := send.Some(h, l, api.Limits{Objects: 6, Bytes: most}); string(b) != string(whole) || e != api.OK {
				t.Errorf("%v with %d bytes: %q, %d", l, most, b, e)
			}
		}
	}
}

// P12.1: if there are several errors, that of the values comes first, then that of the objects.
func TestFirstError(t *testing.T) {
	h := ring(t, 3)
	none := api.Limits{}
	checkError(t, h, refs(0, 3), none, api.ErrSendValue)
	checkError(t, h, []api.Value{ref(0), flag(2)}, none, api.ErrSendValue)
	checkError(t, h, make([]api.Value, 65), api.Limits{Objects: -1, Bytes: -1}, api.ErrSendValue)
	checkError(t, h, refs(0), none, api.ErrSendMany)
	checkError(t, h, refs(0), api.Limits{Objects: 2, Bytes: 5}, api.ErrSendMany)
	checkError(t, h, refs(0), api.Limits{Objects: 3, Bytes: 5}, api.ErrSendLong)
	checkError(t, h, []api.Value{null}, none, api.ErrSendLong)
}
