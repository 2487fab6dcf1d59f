package take

import (
	"math"
	"slices"

	"squinch/api"
	"squinch/graph"
	"squinch/heap"
	"squinch/kind"
	"squinch/pack"
)

const (
	maxKinds  = 256
	maxValues = 64
)

// parcel is what was read so far. Its objects are in the heap from the beginning, so that they can refer to each other; with an error they are cut from it again.
type parcel struct {
	heap   *heap.Heap
	first  int // the number that the first one of the objects has in the heap
	reader *pack.Reader
	size   int // the number of all bytes
	kinds  []string
	values []api.Value
	at     int // the offset of the item with an error
	err    api.Errno
}

func unpack(h *heap.Heap, b []byte) *parcel {
	return &parcel{heap: h, first: h.Len(), reader: pack.Read(b), size: len(b)}
}

// read reads all bytes, and reports whether there is no error in them, as do the functions that it calls.
func (p *parcel) read(maxObjects int) bool {
	return p.list(maxKinds, api.ErrTakeForm, p.readKind) &&
		p.list(max(maxObjects, 0), api.ErrTakeMany, p.readObject) &&
		p.slots() &&
		p.list(maxValues, api.ErrTakeForm, p.value(p.keep)) &&
		p.item(p.end)
}

// item reads an item by a closure, which returns the error that the item has. What the reader cannot read is zero for the closure, which need not ask for that: whatever it does then is undone as after any error.
func (p *parcel) item(read func() api.Errno) bool {
	begin := p.size - p.reader.Left()
	e := read()
	if _, unread := p.reader.Err(); unread != api.OK {
		e = api.ErrTakeForm
	}
	if e != api.OK {
		p.at, p.err = begin, e
	}
	return e == api.OK
}

// list reads a number of items, with an error if there are too many, and the items.
func (p *parcel) list(most int, tooMany api.Errno, read func() api.Errno) bool {
	number := uint64(0)
	ok := p.item(func() api.Errno {
		n, less := below(uint64(most)+1, p.reader.Num)
		if !less {
			return tooMany
		}
		number = n
		return api.OK
	})
	// The number may be far greater than that of the bytes, so nothing is made for it in advance.
	for range number {
		if !p.item(read) {
			return false
		}
	}
	return ok
}

// readKind reads a kind with its print. The table has no layout for an array kind, and so gives it the empty one.
func (p *parcel) readKind() api.Errno {
	of, layout := p.reader.Text(), p.reader.Text()
	table := p.heap.Table()
	isArray := kind.Deep(of) > 0 && table.Kind(of)
	if !isArray && !table.Objects(of) || layout != table.Print(of) || slices.Contains(p.kinds, of) {
		return api.ErrTakeKind
	}
	p.kinds = append(p.kinds, of)
	return api.OK
}

// readObject reads what is told of an object before its values, and creates it.
func (p *parcel) readObject() api.Errno {
	index, ok := below(uint64(len(p.kinds)), p.reader.Num)
	if !ok {
		return api.ErrTakeForm
	}
	if p.create(p.kinds[index]) != api.OK {
		return api.ErrTakeRoom
	}
	return api.OK
}

func (p *parcel) create(of string) api.Errno {
	if kind.Deep(of) == 0 {
		_, e := p.heap.Object(of)
		return e
	}
	// As a signed number, the greatest ones would be negative.
	n := min(p.reader.Num(), math.MaxInt64)
	_, e := p.heap.Array(kind.Elem(of), int64(n))
	return e
}

// slots reads the values in the sent slots of all objects.
func (p *parcel) slots() bool {
	for ref := p.first; ref < p.heap.Len(); ref++ {
		for _, at := range graph.Sent(p.heap, ref) {
			assign := func(v api.Value) api.Errno {
				if p.heap.Set(ref, int64(at), v) != api.OK {
					return api.ErrTakeValue
				}
				return api.OK
			}
			if !p.item(p.value(assign)) {
				return false
			}
		}
	}
	return true
}

func (p *parcel) keep(v api.Value) api.Errno {
	p.values = append(p.values, v)
	return api.OK
}

// value returns what reads a value and passes it to a closure, which returns the error that the value has.
func (p *parcel) value(use func(v api.Value) api.Errno) func() api.Errno {
	return func() api.Errno {
		v := api.Value{}
		switch p.reader.Num() {
		case api.Null:
		case api.Int:
			v = api.Value{Sort: api.Int, N: p.reader.Int()}
		case api.Bool:
			v.Sort = api.Bool
			if p.reader.Flag() {
				v.N = 1
			}
		case api.Text:
			v = api.Value{Sort: api.Text, S: p.reader.Text()}
		case api.Ref:
			n, ok := below(uint64(p.heap.Len()-p.first), p.reader.Num)
			if !ok {
				return api.ErrTakeForm
			}
			v = api.Value{Sort: api.Ref, Ref: p.first + int(n)}
		default:
			return api.ErrTakeForm
		}
		return use(v)
	}
}

// end is the item behind the last value: there may be nothing.
func (p *parcel) end() api.Errno {
	if p.reader.Left() > 0 {
		return api.ErrTakeForm
	}
	return api.OK
}

// below reads a number by a method of a reader, and reports whether it is less than a bound.
func below(bound uint64, number func() uint64) (uint64, bool) {
	n := number()
	return n, n < bound
}
