package take_test

import (
	"math/rand"
	"slices"
	"strings"
	"testing"

	"squinch/api"
	"squinch/heap"
	"squinch/take"
)

// checkSecond checks what is read by the second definition, and returns the error. The heap is as before afterwards.
func checkSecond(t *testing.T, h *heap.Heap, b []byte, limits api.Limits) api.Errno {
	t.Helper()
	cells, values, at, e := secondSome(h, b, limits)
	old, left := h.Cells(), h.Left()
	check := func(call string, same bool, i int, f api.Errno, cells []api.Cell, at int, e api.Errno) {
		t.Helper()
		if !same || i != at || f != e {
			t.Fatalf("%s(%q) with %v: %v, %d, %d, want %s, %d, %d", call, b, limits, same, i, f, short(values), at, e)
		}
		if want := slices.Concat(old, cells); !sameCells(h.Cells(), want) || h.Left() != left-occupied(cells) || !h.Right() {
			t.Fatalf("%s(%q) with %v: %s with %d left, want %s", call, b, limits, short(h.Cells()), h.Left(), short(want))
		}
		h.Cut(len(old))
	}
	l, i, f := take.Some(h, b, limits)
	check("Some", slices.Equal(l, values), i, f, cells, at, e)
	if e == api.OK && len(values) != 1 {
		cells, values, at, e = nil, nil, len(b)-1, api.ErrTakeForm
	}
	v, i, g := take.Get(h, b, limits)
	check("Get", v == append(values, null)[0], i, g, cells, at, e)
	return f
}

// P13.1, P13.2: all sequences of a few telling pieces, by the second definition.
func TestAllSequences(t *testing.T) {
	var pieces [][]byte
	for _, s := range []string{"\x00", "\x01", "\x02", "\x04", "\x05", "\x80", "\x01E\x04E().", "\x05int[]\x00", "\x01L\x0cL() next:L."} {
		pieces = append(pieces, []byte(s))
	}
	h := used(t, zoo(t), 3)
	limits := api.Limits{Objects: 2, Bytes: 40}
	count := map[api.Errno]int{}
	var all func(b []byte, more int)
	all = func(b []byte, more int) {
		e := checkSecond(t, h, b, limits)
		count[e]++
		if more == 0 {
			return
		}
		// What follows an item with an error has no influence, so only some of that is tried; with ErrTakeForm, the item may just not be at its end.
		if e != api.OK && e != api.ErrTakeForm {
			more = min(more, 2)
		}
		for _, p := range pieces {
			all(append(slices.Clone(b), p...), more-1)
		}
	}
	all(nil, 6)
	for _, e := range []api.Errno{api.OK, api.ErrTakeForm, api.ErrTakeKind, api.ErrTakeMany, api.ErrTakeRoom} {
		if count[e] < 10 {
			t.Errorf("%d: only %d of %v", e, count[e], count)
		}
	}
}

// dice chooses at random, the same in each run.
type dice struct{ *rand.Rand }

func diceOf(seed int64) dice { return dice{rand.New(rand.NewSource(seed))} }

// kindsOfZoo are all kinds of which the zoo has objects, each with its print, and some more.
func kindsOfZoo() [][2]string {
	l := [][2]string{{"N", printN}, {"M", printM}, {"L", printL}, {"V", printV}, {"O", "O()."}, {"P", printP}, {"E", "E()."}, {"J", "J()."}, {"Q", printQ}, {"K", printK}, {"Object", ""}, {"Fault", "Fault() what:text."}, {"ZeroFault", "ZeroFault(Fault() what:text.)."}}
	for _, array := range strings.Fields("int[] bool[] text[] Object[] L[] I[] int[][] L[][] Fault[] Object[][][]") {
		l = append(l, [2]string{array, ""})
	}
	return l
}

// items returns the items of an encoding. Nearly all of them have no error, so that there is often none before the last ones.
func (d dice) items(t *testing.T) [][]byte {
	t.Helper()
	kinds := kindsOfZoo()
	d.Shuffle(len(kinds), func(i, k int) { kinds[i], kinds[k] = kinds[k], kinds[i] })
	kinds = kinds[:1+d.Intn(4)]
	items := [][]byte{join(len(kinds))}
	for _, k := range kinds {
		items = append(items, join(k[0], k[1]))
	}
	objects := make([]string, d.Intn(7))
	items = append(items, join(len(objects)))
	table := zoo(t)
	s := &second{table: table}
	var slots []string
	for n := range objects {
		k := d.Intn(len(kinds))
		objects[n] = kinds[k][0]
		item, size := join(k), 0
		if strings.HasSuffix(objects[n], "[]") {
			size = d.Intn(4)
			item = join(k, size)
		}
		items = append(items, item)
		slots = append(slots, s.slots(objects[n], size)...)
	}
	for _, slot := range slots {
		if slot != "" {
			items = append(items, d.value(slot, func(n int) bool { return table.Sub(objects[n], slot) }, len(objects)))
		}
	}
	values := d.Intn(4)
	items = append(items, join(values))
	for range values {
		slot := []string{"int", "bool", "text", "Object"}[d.Intn(4)]
		items = append(items, d.value(slot, func(int) bool { return true }, len(objects)))
	}
	return items
}

// value returns the encoding of a value of a kind, with a reference to one of n objects if that fits.
func (d dice) value(kind string, fits func(n int) bool, n int) []byte {
	switch kind {
	case "int":
		return join(api.Int, d.Intn(300))
	case "bool":
		return join(api.Bool, d.Intn(2))
	case "text":
		return join(api.Text, []string{"", "a", "é"}[d.Intn(3)])
	}
	for range 4 * min(n, 1) {
		if k := d.Intn(n); fits(k) {
			return join(api.Ref, k)
		}
	}
	return join(0)
}

// damaged returns the bytes of items, with some of them changed, doubled, exchanged or left out, or with other bytes.
func (d dice) damaged(items [][]byte) []byte {
	items = slices.Clone(items)
	some := [][]byte{join(0), join(1), join(2), join(5), join(4, 0), join(4, 3), join(4, 9), join(1, 7), join(2, 1), join(3, "a"), join(65), join(257), join(0, 30), join("E", "E()."), join("Z", "")}
	at, from := d.Intn(len(items)), d.Intn(len(items))
	switch d.Intn(8) {
	case 0:
		items[at] = some[d.Intn(len(some))]
	case 1:
		items = slices.Insert(items, at, some[d.Intn(len(some))])
	case 2:
		items[at] = items[from]
	case 3:
		items = slices.Insert(items, at, items[from])
	case 4:
		items[at], items[from] = items[from], items[at]
	case 5:
		items = slices.Delete(items, at, at+1)
	}
	b := slices.Concat(items...)
	if len(b) == 0 {
		return b
	}
	switch place := d.Intn(len(b)); d.Intn(8) {
	case 0:
		b[place] = byte(d.Intn(256))
	case 1:
		b[place] ^= 1 << d.Intn(8)
	case 2:
		b = b[:place]
	case 3:
		b = append(b, byte(d.Intn(256)))
	case 4:
		b = slices.Insert(b, place, byte(d.Intn(256)))
	case 5:
		b = slices.Delete(b, place, place+1)
	}
	return b
}

// P13.1, P13.2: random encodings and damaged ones, with random limits, into heaps with random room, by the second definition.
func TestRandomBytes(t *testing.T) {
	d, zoo := diceOf(13), zoo(t)
	count := map[api.Errno]int{}
	for range 20000 {
		items := d.items(t)
		whole := slices.Concat(items...)
		count[checkSecond(t, used(t, zoo, 100), whole, wide)]++
		h := used(t, zoo, d.Intn(40))
		for range 3 {
			limits := []api.Limits{wide, {Objects: d.Intn(7), Bytes: 2000}, {Objects: 9, Bytes: len(whole) - 2 + d.Intn(4)}}[d.Intn(3)]
			count[checkSecond(t, h, d.damaged(items), limits)]++
		}
	}
	for _, e := range []api.Errno{api.OK, api.ErrTakeForm, api.ErrTakeKind, api.ErrTakeMany, api.ErrTakeRoom, api.ErrTakeValue} {
		if count[e] < 500 {
			t.Errorf("%d: only %d of %v", e, count[e], count)
		}
	}
}

// P13.1: bytes that are nothing but random.
func TestNonsense(t *testing.T) {
	d, h := diceOf(14), used(t, zoo(t), 50)
	for range 100000 {
		b := make([]byte, d.Intn(40))
		for i := range b {
			b[i] = byte(d.Intn(256)) >> d.Intn(9)
		}
		checkSecond(t, h, b, wide)
	}
}
