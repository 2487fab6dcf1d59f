package frame_test

import (
	"bytes"
	"hash/crc32"
	"math"
	"math/rand"
	"testing"

	"squinch/frame"
)

// slowSum follows the chapter's definition, bit by bit.
func slowSum(b []byte) uint32 {
	sum := uint32(0xffffffff)
	for _, v := range b {
		for i := range 8 {
			out := sum & 1
			sum >>= 1
			if out != uint32(v>>i&1) {
				sum ^= 3988292384
			}
		}
	}
	return ^sum
}

// someBytes returns bytes whose source is fixed, so that each run is the same.
func someBytes(seed int64, n int) []byte {
	b := make([]byte, n)
	rand.New(rand.NewSource(seed)).Read(b)
	return b
}

// P2.1
func TestSumByExample(t *testing.T) {
	for _, x := range []struct {
		b    []byte
		want uint32
	}{
		{nil, 0}, {[]byte{}, 0}, {[]byte("123456789"), 3421780262}, {[]byte("a"), 0xe8b7be43},
		{[]byte{0}, 0xd202ef8d}, {[]byte{0, 0, 0, 0}, 0x2144df1c}, {[]byte{255}, 0xff000000},
		{[]byte{255, 255, 255, 255}, 0xffffffff},
		{[]byte("The quick brown fox jumps over the lazy dog"), 0x414fa339},
	} {
		if v := frame.Sum(x.b); v != x.want {
			t.Errorf("Sum(%q) = %#x, want %#x", x.b, v, x.want)
		}
	}
}

// P2.1
func TestSumOfEachByteAndEachPair(t *testing.T) {
	for i := range 1 << 16 {
		b := []byte{byte(i), byte(i >> 8)}
		for _, c := range [][]byte{b, b[:1]} {
			if v := frame.Sum(c); v != slowSum(c) {
				t.Fatalf("Sum(%v) = %#x, want %#x", c, v, slowSum(c))
			}
		}
	}
}

// P2.1: the chapter's definition and the library's agree with it at any length, and no length is too long.
func TestSumOfManyBytes(t *testing.T) {
	for n := range 300 {
		b := someBytes(int64(n), n)
		if v := frame.Sum(b); v != slowSum(b) || v != crc32.ChecksumIEEE(b) {
			t.Errorf("Sum of %d bytes = %#x, want %#x, %#x", n, v, slowSum(b), crc32.ChecksumIEEE(b))
		}
	}
	for _, n := range []int{32767, 32768, 32769, 32773, 1 << 20} {
		b := someBytes(int64(n), n)
		if v := frame.Sum(b); v != crc32.ChecksumIEEE(b) {
			t.Errorf("Sum of %d bytes = %#x, want %#x", n, v, crc32.ChecksumIEEE(b))
		}
	}
}

// P2.1
func TestMoreByExample(t *testing.T) {
	if v := frame.More(frame.Sum([]byte("1234")), []byte("56789")); v != 0xcbf43926 {
		t.Errorf("%#x", v)
	}
	if v := frame.More(0, []byte("a")); v != 0xe8b7be43 {
		t.Errorf("%#x: 0 is the sum of no bytes", v)
	}
}

// P2.1: at each cut, and at two cuts.
func TestMoreGoesOn(t *testing.T) {
	b := someBytes(1, 70)
	want := slowSum(b)
	for i := range len(b) + 1 {
		first := frame.Sum(b[:i])
		if v := frame.More(first, b[i:]); v != want {
			t.Errorf("cut at %d: %#x, want %#x", i, v, want)
		}
		for j := i; j <= len(b); j++ {
			if v := frame.More(frame.More(first, b[i:j]), b[j:]); v != want {
				t.Errorf("cut at %d and %d: %#x, want %#x", i, j, v, want)
			}
		}
	}
}

// P2.1: every number is the sum of some bytes, so More is told by the definition for all of them.
func TestMoreOfAnySum(t *testing.T) {
	dice := rand.New(rand.NewSource(2))
	sums := []uint32{0, 1, 1 << 31, math.MaxUint32, math.MaxUint32 - 1, 0xedb88320}
	for range 200 {
		sums = append(sums, dice.Uint32())
	}
	for _, sum := range sums {
		for _, b := range [][]byte{nil, {}} {
			if v := frame.More(sum, b); v != sum {
				t.Errorf("More(%#x, nothing) = %#x", sum, v)
			}
		}
		b := someBytes(int64(sum), 9)
		if v, want := frame.More(sum, b), crc32.Update(sum, crc32.IEEETable, b); v != want {
			t.Errorf("More(%#x, %v) = %#x, want %#x", sum, b, v, want)
		}
	}
}

// The rules that arguments are not modified, and that no call depends on another.
func TestSumLeavesItsArgument(t *testing.T) {
	whole := []byte("123456789and more")
	for range 2 {
		if v := frame.Sum(whole[:9]); v != 0xcbf43926 {
			t.Errorf("%#x", v)
		}
		if v := frame.More(frame.Sum(whole[:4]), whole[4:9]); v != 0xcbf43926 {
			t.Errorf("%#x", v)
		}
	}
	if !bytes.Equal(whole, []byte("123456789and more")) {
		t.Errorf("the argument was changed: %q", whole)
	}
}
