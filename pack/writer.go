package pack

import "bytes"

// Writer collects the encodings of what is written.
type Writer struct{ data []byte }

// Write returns an empty writer.
func Write() *Writer { return &Writer{} }

// Num writes unsigned numbers.
func (w *Writer) Num(l ...uint64) {
	for _, v := range l {
		w.data = appendVar(w.data, v)
	}
}

// Int writes signed numbers.
func (w *Writer) Int(l ...int64) {
	for _, n := range l {
		w.Num(Zig(n))
	}
}

// Flag writes flags.
func (w *Writer) Flag(l ...bool) {
	for _, f := range l {
		b := byte(0)
		if f {
			b = 1
		}
		w.data = append(w.data, b)
	}
}

// Text writes strings.
func (w *Writer) Text(l ...string) {
	for _, s := range l {
		w.Num(uint64(len(s)))
		w.data = append(w.data, s...)
	}
}

// Bytes returns what was written.
func (w *Writer) Bytes() []byte { return bytes.Clone(w.data) }
