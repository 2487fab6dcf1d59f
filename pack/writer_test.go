package pack_test

import (
	"bytes"
	"math"
	"slices"
	"strings"
	"testing"

	"squinch/pack"
)

// P1.2
func TestWriterEncodesEachItem(t *testing.T) {
	for _, x := range []struct {
		name  string
		write func(w *pack.Writer)
		want  []byte
	}{
		{"nothing", func(w *pack.Writer) {}, nil},
		{"no items", func(w *pack.Writer) { w.Num(); w.Int(); w.Flag(); w.Text() }, nil},
		{"numbers", func(w *pack.Writer) { w.Num(0, 127, 128, 300) }, []byte{0, 127, 128, 1, 172, 2}},
		{"greatest number", func(w *pack.Writer) { w.Num(math.MaxUint64) }, []byte{255, 255, 255, 255, 255, 255, 255, 255, 255, 1}},
		{"signed numbers", func(w *pack.Writer) { w.Int(0, -1, 1, -3, -64, 64) }, []byte{0, 1, 2, 5, 127, 128, 1}},
		{"least number", func(w *pack.Writer) { w.Int(math.MinInt64) }, []byte{255, 255, 255, 255, 255, 255, 255, 255, 255, 1}},
		{"flags", func(w *pack.Writer) { w.Flag(true, false, true) }, []byte{1, 0, 1}},
		{"strings", func(w *pack.Writer) { w.Text("é", "", "ab") }, []byte{2, 195, 169, 0, 2, 'a', 'b'}},
		{"invalid string", func(w *pack.Writer) { w.Text("\xff\x80") }, []byte{2, 255, 128}},
		{"long string", func(w *pack.Writer) { w.Text(strings.Repeat("a", 4097)) }, append([]byte{0x81, 0x20}, bytes.Repeat([]byte("a"), 4097)...)},
		{"all, in order", func(w *pack.Writer) { w.Text("a"); w.Flag(true); w.Int(-2); w.Num(9); w.Flag(false) }, []byte{1, 'a', 1, 3, 9, 0}},
	} {
		w := pack.Write()
		x.write(w)
		if b := w.Bytes(); !bytes.Equal(b, x.want) {
			t.Errorf("%s: %v, want %v", x.name, b, x.want)
		}
	}
}

// P1.2
func TestOneCallWritesLikeSeveral(t *testing.T) {
	one, several := pack.Write(), pack.Write()
	one.Num(1, 300, 2)
	one.Int(-1, 5)
	one.Flag(false, true)
	one.Text("x", "", "yz")
	for _, v := range []uint64{1, 300, 2} {
		several.Num(v)
	}
	for _, n := range []int64{-1, 5} {
		several.Int(n)
	}
	for _, f := range []bool{false, true} {
		several.Flag(f)
	}
	for _, s := range []string{"x", "", "yz"} {
		several.Text(s)
	}
	if !bytes.Equal(one.Bytes(), several.Bytes()) {
		t.Errorf("%v, %v", one.Bytes(), several.Bytes())
	}
}

// P1.2: Bytes is all that was written, and may be asked at any time.
func TestBytesMayBeAskedBetweenWrites(t *testing.T) {
	w := pack.Write()
	w.Num(1)
	first := w.Bytes()
	w.Num(2, 3)
	second := w.Bytes()
	if !bytes.Equal(first, []byte{1}) || !bytes.Equal(second, []byte{1, 2, 3}) {
		t.Errorf("%v, then %v", first, second)
	}
}

// P1.2, and the rule that results are new.
func TestBytesReturnsNewMemory(t *testing.T) {
	w := pack.Write()
	w.Num(1, 2, 3)
	b := w.Bytes()
	b[0] = 9
	full := b[:cap(b)]
	for i := range full {
		full[i] = 9
	}
	w.Num(4)
	if got := w.Bytes(); !bytes.Equal(got, []byte{1, 2, 3, 4}) {
		t.Errorf("%v after a result was changed", got)
	}
	if slices.ContainsFunc(full, func(x byte) bool { return x != 9 }) {
		t.Errorf("a later write changed a result: %v", full)
	}
}

// The rule that arguments are neither modified nor retained.
func TestWriterLeavesItsArguments(t *testing.T) {
	nums, ints := []uint64{1, 300, 7}, []int64{-1, 5, 7}
	flags, texts := []bool{true, false, true}, []string{"a", "b", "c"}
	w := pack.Write()
	w.Num(nums[:2]...)
	w.Int(ints[:2]...)
	w.Flag(flags[:2]...)
	w.Text(texts[:2]...)
	if !slices.Equal(nums, []uint64{1, 300, 7}) || !slices.Equal(ints, []int64{-1, 5, 7}) ||
		!slices.Equal(flags, []bool{true, false, true}) || !slices.Equal(texts, []string{"a", "b", "c"}) {
		t.Error("arguments were modified")
	}
	nums[0], ints[0], flags[0], texts[0] = 99, 99, false, "z"
	if b := w.Bytes(); !bytes.Equal(b, []byte{1, 172, 2, 1, 10, 1, 0, 1, 'a', 1, 'b'}) {
		t.Errorf("%v", b)
	}
}

// Writers share nothing.
func TestWritersAreIndependent(t *testing.T) {
	a, b := pack.Write(), pack.Write()
	a.Num(1)
	b.Num(2)
	if !bytes.Equal(a.Bytes(), []byte{1}) || !bytes.Equal(b.Bytes(), []byte{2}) {
		t.Errorf("%v, %v", a.Bytes(), b.Bytes())
	}
}
