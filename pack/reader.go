package pack

import (
	"bytes"
	"unicode/utf8"

	"squinch/api"
)

// Reader decodes items from bytes, until the first error.
type Reader struct {
	data []byte
	at   int
	err  api.Errno
}

// Read returns a reader of bytes.
func Read(b []byte) *Reader { return &Reader{data: bytes.Clone(b)} }

// Num reads an unsigned number.
func (r *Reader) Num() uint64 { return item(r, r.number) }

// Int reads a signed number.
func (r *Reader) Int() int64 {
	return item(r, func() (int64, api.Errno) {
		v, e := r.number()
		return Zag(v), e
	})
}

// Count reads the number of elements that follow, up to a maximum.
func (r *Reader) Count(most int) int {
	return item(r, func() (int, api.Errno) { return r.count(most) })
}

// Flag reads a flag.
func (r *Reader) Flag() bool { return item(r, r.flag) }

// Text reads a string.
func (r *Reader) Text() string { return item(r, r.text) }

// Left returns the number of bytes that were not read yet.
func (r *Reader) Left() int { return len(r.data) - r.at }

// Err returns the first error, and the offset of the item that caused it.
func (r *Reader) Err() (int, api.Errno) {
	if r.err == api.OK {
		return 0, api.OK
	}
	// The reader still stands where the item with the error begins.
	return r.at, r.err
}

// End returns the first error, or an error if bytes are left.
func (r *Reader) End() (int, api.Errno) {
	if r.err == api.OK && r.Left() > 0 {
		return r.at, api.ErrPackMore
	}
	return r.Err()
}

// item keeps the rule that all items share: nothing is read after an error, nor by the call that has it.
func item[T any](r *Reader, read func() (T, api.Errno)) T {
	var none T
	if r.err != api.OK {
		return none
	}
	begin := r.at
	v, e := read()
	if e != api.OK {
		r.at, r.err = begin, e
		return none
	}
	return v
}

func (r *Reader) next() (byte, api.Errno) {
	if r.Left() == 0 {
		return 0, api.ErrPackShort
	}
	b := r.data[r.at]
	r.at++
	return b, api.OK
}

func (r *Reader) number() (uint64, api.Errno) {
	v := uint64(0)
	for i := range maxGroups {
		b, e := r.next()
		if e != api.OK {
			return 0, e
		}
		if i > 0 && b == 0 || i == maxGroups-1 && b > maxLast {
			return 0, api.ErrPackForm
		}
		v |= uint64(b&groupMask) << (groupBits * i)
		if b < moreBit {
			break
		}
	}
	return v, api.OK
}

func (r *Reader) count(most int) (int, api.Errno) {
	v, e := r.number()
	if e != api.OK {
		return 0, e
	}
	// A negative maximum would be huge as an unsigned number.
	if most < 0 || v > uint64(most) || v > uint64(r.Left()) {
		return 0, api.ErrPackBig
	}
	return int(v), api.OK
}

func (r *Reader) flag() (bool, api.Errno) {
	b, e := r.next()
	if e == api.OK && b > 1 {
		e = api.ErrPackForm
	}
	return b == 1, e
}

func (r *Reader) text() (string, api.Errno) {
	v, e := r.number()
	switch {
	case e != api.OK:
		return "", e
	case v > api.MaxText:
		return "", api.ErrPackBig
	case v > uint64(r.Left()):
		return "", api.ErrPackShort
	}
	end := r.at + int(v)
	s := string(r.data[r.at:end])
	if !utf8.ValidString(s) {
		return "", api.ErrPackForm
	}
	r.at = end
	return s, api.OK
}
