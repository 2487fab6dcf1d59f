package send

import "squinch/pack"

// bounded is the beginning of an encoding that may have a number of bytes.
type bounded struct {
	data []byte
	most int
	long bool // it would have more
}

// add appends what a closure writes. Nothing is written any more when the encoding is too long, as it might be far longer than anything that could be kept.
func (b *bounded) add(write func(w *pack.Writer)) {
	if b.long {
		return
	}
	w := pack.Write()
	write(w)
	more := w.Bytes()
	b.long = len(more) > b.most-len(b.data)
	if !b.long {
		b.data = append(b.data, more...)
	}
}

func (b *bounded) number(n int) {
	b.add(func(w *pack.Writer) { w.Num(uint64(n)) })
}
