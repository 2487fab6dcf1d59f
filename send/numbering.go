package send

// numbering numbers what is added to it from 0 on, each thing once.
type numbering[T comparable] struct {
	list    []T
	numbers map[T]int
}

func newNumbering[T comparable]() *numbering[T] {
	return &numbering[T]{numbers: map[T]int{}}
}

func (n *numbering[T]) add(x T) {
	if _, known := n.numbers[x]; !known {
		n.numbers[x] = len(n.list)
		n.list = append(n.list, x)
	}
}
