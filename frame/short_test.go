package frame_test

import (
	"bytes"
	"math"
	"math/rand"
	"testing"

	"squinch/api"
	"squinch/frame"
)

// invert inverts the bits of a pattern, the lowest at the bit from; ok is false if one of them lies behind the frame.
func invert(f []byte, from int, pattern uint64) (c []byte, ok bool) {
	c = bytes.Clone(f)
	for i := from; pattern != 0; i++ {
		if i >= 8*len(c) {
			return nil, false
		}
		c[i/8] ^= byte(pattern&1) << (i % 8)
		pattern >>= 1
	}
	return c, true
}

// checkDetected inverts bits of a frame and demands that the result is none.
func checkDetected(t *testing.T, f []byte, from int, pattern uint32) {
	t.Helper()
	c, ok := invert(f, from, uint64(pattern))
	if !ok {
		return
	}
	if bytes.Equal(c, f) {
		t.Fatalf("nothing was inverted: %#x at %d", pattern, from)
	}
	if d, e := frame.Get(c); e != api.ErrFrameForm || len(d) != 0 {
		t.Fatalf("%#x at bit %d of %d bytes: error %d", pattern, from, len(f), e)
	}
}

// somePatterns returns patterns of 1 to 32 bits: single bits, pairs, whole runs, and others.
func somePatterns(dice *rand.Rand, more int) []uint32 {
	l := []uint32{0xedb88320, 0xedb88321, 0x04c11db7, 0xaaaaaaab, 0x55555555, 0x80000001}
	for i := range 32 {
		l = append(l, 1<<i, math.MaxUint32>>i, 1|1<<i)
	}
	for range more {
		l = append(l, dice.Uint32()|1)
	}
	return l
}

// P2.4: at each bit of small frames, in the bytes, in the sum and across both.
func TestShortErrorsInSmallFrames(t *testing.T) {
	dice := rand.New(rand.NewSource(4))
	for _, n := range []int{0, 1, 2, 3, 4, 5, 9, 31} {
		f, _ := frame.Put(someBytes(int64(n), n))
		for from := range 8 * len(f) {
			for _, p := range somePatterns(dice, 50) {
				checkDetected(t, f, from, p)
			}
		}
	}
}

// P2.4: every pattern within 16 bits, at each bit where it may begin.
func TestAllErrorsWithinSixteenBits(t *testing.T) {
	f, _ := frame.Put([]byte("123"))
	for from := range 8 * len(f) {
		for p := uint32(1); p < 1<<16; p += 2 {
			checkDetected(t, f, from, p)
		}
	}
}

// P2.4: in the longest frames, at both ends and in between.
func TestShortErrorsInTheLongestFrame(t *testing.T) {
	f, e := frame.Put(someBytes(5, api.MaxFrame))
	if e != api.OK {
		t.Fatal(e)
	}
	dice := rand.New(rand.NewSource(5))
	bits := 8 * len(f)
	for _, from := range []int{0, 1, 7, 8, bits / 2, bits/2 + 3, bits - 65, bits - 64, bits - 40, bits - 33, bits - 32} {
		checkDetected(t, f, from, math.MaxUint32)
		checkDetected(t, f, from, 1)
		checkDetected(t, f, from, 0x80000001)
		checkDetected(t, f, from, 0xedb88320)
		checkDetected(t, f, from, dice.Uint32()|1)
	}
	checkDetected(t, f, bits-1, 1)
}

// P2.2 at the end of what P2.4 promises: 33 bits can turn a frame into another one, which Get then accepts.
func TestLongerErrorsMayMakeAnotherFrame(t *testing.T) {
	const pattern = 1 | uint64(0xedb88320)<<1
	b := someBytes(6, 12)
	f, _ := frame.Put(b)
	for from := range 8*len(f) - 32 {
		c, ok := invert(f, from, pattern)
		if !ok {
			t.Fatalf("bit %d lies behind the frame", from+32)
		}
		if d, e := frame.Get(c); e != api.OK || !bytes.Equal(d, c[:12]) || bytes.Equal(d, b) {
			t.Errorf("33 bits at bit %d: %v, error %d", from, d, e)
		}
	}
}
