package send

import (
	"squinch/api"
	"squinch/graph"
	"squinch/heap"
	"squinch/kind"
	"squinch/pack"
)

// parcel is what is sent with values: the objects that are reachable from them, and the kinds of these.
type parcel struct {
	heap    *heap.Heap
	objects *numbering[int]
	kinds   *numbering[string]
}

// parcelOf does not ask graph.Reach for each value, which would walk what several values share once for each of them. The order is the same: whatever is reachable from an object that was met is met before the next value.
func parcelOf(h *heap.Heap, l []api.Value) parcel {
	p := parcel{h, newNumbering[int](), newNumbering[string]()}
	meet := func(v api.Value) {
		if of := h.Kind(v.Ref); v.Sort == api.Ref && of != "" {
			p.objects.add(v.Ref)
			p.kinds.add(of)
		}
	}
	next := 0
	for _, v := range l {
		meet(v)
		for ; next < len(p.objects.list); next++ {
			p.sent(p.objects.list[next], meet)
		}
	}
	return p
}

// sent passes the values in the sent slots of an object, in order, to a closure.
func (p parcel) sent(ref int, each func(v api.Value)) {
	for _, at := range graph.Sent(p.heap, ref) {
		v, _ := p.heap.Get(ref, int64(at))
		each(v)
	}
}

// withPrint returns a kind and its print. The table has no layout for an array kind, and so gives it the empty one.
func (p parcel) withPrint(of string) [2]string { return [2]string{of, p.heap.Table().Print(of)} }

// encode writes the encoding of values of which this is the parcel.
func (p parcel) encode(l []api.Value, b *bounded) {
	value := p.valueWriter(b)
	p.writeKinds(b)
	p.writeHeads(b.number)
	for _, ref := range p.objects.list {
		p.sent(ref, value)
	}
	b.number(len(l))
	for _, v := range l {
		value(v)
	}
}

func (p parcel) writeKinds(b *bounded) {
	b.number(len(p.kinds.list))
	for _, of := range p.kinds.list {
		b.add(func(w *pack.Writer) {
			both := p.withPrint(of)
			w.Text(both[:]...)
		})
	}
}

// writeHeads writes what is told of the objects before their values.
func (p parcel) writeHeads(number func(n int)) {
	number(len(p.objects.list))
	for _, ref := range p.objects.list {
		of := p.heap.Kind(ref)
		number(p.kinds.numbers[of])
		if kind.Deep(of) > 0 {
			number(p.heap.Size(ref))
		}
	}
}

// valueWriter returns what writes the encoding of a valid value.
func (p parcel) valueWriter(b *bounded) func(v api.Value) {
	return func(v api.Value) {
		b.number(v.Sort)
		switch v.Sort {
		case api.Int:
			b.add(func(w *pack.Writer) { w.Int(v.N) })
		case api.Bool:
			b.add(func(w *pack.Writer) { w.Flag(v.N == 1) })
		case api.Text:
			b.add(func(w *pack.Writer) { w.Text(v.S) })
		case api.Ref:
			b.number(p.objects.numbers[v.Ref])
		}
	}
}
