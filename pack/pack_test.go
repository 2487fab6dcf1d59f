package pack_test

import (
	"bytes"
	"encoding/binary"
	"math"
	"math/big"
	"testing"

	"squinch/pack"
)

// edges returns the numbers next to each power of two, where encodings change.
func edges() []uint64 {
	l := []uint64{0, 300}
	for i := range 64 {
		p := uint64(1) << i
		l = append(l, p-1, p, p+1, -p, -p-1)
	}
	return l
}

// zigzag follows the chapter's definition with numbers that cannot overflow.
func zigzag(n int64) uint64 {
	v := new(big.Int).Mul(big.NewInt(n), big.NewInt(2))
	if n < 0 {
		v.Neg(v).Sub(v, big.NewInt(1))
	}
	return v.Uint64()
}

// P1.1
func TestZigAndZagByExample(t *testing.T) {
	for _, x := range []struct {
		n int64
		v uint64
	}{
		{0, 0}, {-1, 1}, {1, 2}, {-2, 3}, {2, 4}, {-3, 5},
		{math.MaxInt64, math.MaxUint64 - 1}, {math.MinInt64, math.MaxUint64},
	} {
		if v := pack.Zig(x.n); v != x.v {
			t.Errorf("Zig(%d) = %d, want %d", x.n, v, x.v)
		}
		if n := pack.Zag(x.v); n != x.n {
			t.Errorf("Zag(%d) = %d, want %d", x.v, n, x.n)
		}
	}
}

// P1.1
func TestZigAndZagAreInverse(t *testing.T) {
	for _, v := range edges() {
		n := int64(v)
		if z := pack.Zig(n); z != zigzag(n) || pack.Zag(z) != n {
			t.Errorf("Zig(%d) = %d, want %d; Zag gives %d", n, z, zigzag(n), pack.Zag(z))
		}
		if z := pack.Zig(pack.Zag(v)); z != v {
			t.Errorf("Zig(Zag(%d)) = %d", v, z)
		}
	}
}

// P1.1
func TestVarByExample(t *testing.T) {
	for _, x := range []struct {
		v    uint64
		want []byte
	}{
		{0, []byte{0}}, {1, []byte{1}}, {127, []byte{127}},
		{128, []byte{128, 1}}, {300, []byte{172, 2}}, {16383, []byte{255, 127}},
		{16384, []byte{128, 128, 1}},
		{1 << 63, []byte{128, 128, 128, 128, 128, 128, 128, 128, 128, 1}},
		{math.MaxUint64, []byte{255, 255, 255, 255, 255, 255, 255, 255, 255, 1}},
	} {
		if b := pack.Var(x.v); !bytes.Equal(b, x.want) {
			t.Errorf("Var(%d) = %v, want %v", x.v, b, x.want)
		}
	}
}

// P1.1
func TestVarAtAllEdges(t *testing.T) {
	for _, v := range edges() {
		if b, want := pack.Var(v), binary.AppendUvarint(nil, v); !bytes.Equal(b, want) {
			t.Errorf("Var(%d) = %v, want %v", v, b, want)
		}
	}
}

// P1.1, and the rule that results are new.
func TestVarReturnsNewMemory(t *testing.T) {
	a := pack.Var(300)
	a[0] = 0
	if b := pack.Var(300); !bytes.Equal(b, []byte{172, 2}) {
		t.Errorf("Var(300) = %v after a result was changed", b)
	}
}
