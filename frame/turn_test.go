package frame_test

import (
	"bytes"
	"math"
	"testing"

	"squinch/frame"
)

// P2.3
func TestTurnByExample(t *testing.T) {
	for _, x := range []struct {
		b    []byte
		at   int
		by   []byte
		want []byte
	}{
		{[]byte{1, 2, 3}, 1, []byte{255}, []byte{1, 253, 3}},
		{[]byte{1, 2, 3}, 0, []byte{1, 1, 1}, []byte{0, 3, 2}},
		{[]byte{1, 2, 3}, 0, []byte{0, 0, 255}, []byte{1, 2, 252}},
		{[]byte{1, 2, 3}, 1, nil, []byte{1, 2, 3}},
		{[]byte{1, 2, 3}, 2, []byte{1, 255}, []byte{1, 2, 2}},
		{[]byte{1, 2, 3}, 3, []byte{255}, []byte{1, 2, 3}},
		{[]byte{1, 2, 3}, 4, []byte{255, 255}, []byte{1, 2, 3}},
		{[]byte{1, 2, 3}, -1, []byte{255}, []byte{1, 2, 3}},
		{[]byte{1, 2, 3}, -1, []byte{255, 4}, []byte{5, 2, 3}},
		{[]byte{1, 2, 3}, -2, []byte{9, 9, 1, 2, 4, 9, 9}, []byte{0, 0, 7}},
		{[]byte{1, 2, 3}, -5, []byte{255}, []byte{1, 2, 3}},
		{nil, 0, []byte{255}, nil}, {nil, -1, []byte{255, 255}, nil}, {nil, 0, nil, nil}, {[]byte{}, 0, []byte{}, nil},
	} {
		if c := frame.Turn(x.b, x.at, x.by); !bytes.Equal(c, x.want) {
			t.Errorf("Turn(%v, %d, %v) = %v, want %v", x.b, x.at, x.by, c, x.want)
		}
	}
}

// P2.3: each place that overlaps the bytes in part, in whole or not at all, told from the side of the bytes.
func TestTurnAtEachPlace(t *testing.T) {
	b, by := []byte{0x10, 0x20, 0x30, 0x40, 0x50}, []byte{1, 2, 4, 8, 3, 5, 7}
	for n := range len(by) + 1 {
		for at := -9; at <= 9; at++ {
			want := bytes.Clone(b)
			for i := range want {
				if k := i - at; k >= 0 && k < n {
					want[i] ^= by[k]
				}
			}
			if c := frame.Turn(b, at, by[:n]); !bytes.Equal(c, want) {
				t.Errorf("Turn(%v, %d, %v) = %v, want %v", b, at, by[:n], c, want)
			}
		}
	}
}

// P1 and P2.3: no index is too great or too small to be asked, nor does it come round to the other side.
func TestTurnFarOff(t *testing.T) {
	b, by := []byte{1, 2, 3}, bytes.Repeat([]byte{255}, 100)
	for _, at := range []int{
		math.MaxInt, math.MaxInt - 1, math.MaxInt - 99, math.MinInt, math.MinInt + 1, math.MinInt + 99,
		math.MaxInt32, math.MinInt32, 1 << 32, -1 << 32, 1<<32 + 1, -100, -101, 3, 100,
	} {
		if c := frame.Turn(b, at, by); !bytes.Equal(c, b) {
			t.Errorf("Turn at %d = %v", at, c)
		}
	}
	if c := frame.Turn(b, -99, by); !bytes.Equal(c, []byte{254, 2, 3}) {
		t.Errorf("Turn at -99 = %v", c)
	}
}

// P2.3: what is combined twice is as before.
func TestTurnTwice(t *testing.T) {
	b, by := someBytes(1, 40), someBytes(2, 50)
	for at := -60; at <= 60; at++ {
		if c := frame.Turn(frame.Turn(b, at, by), at, by); !bytes.Equal(c, b) {
			t.Errorf("Turn twice at %d = %v, want %v", at, c, b)
		}
	}
}

// P2.3: bytes may be longer than any frame.
func TestTurnOfManyBytes(t *testing.T) {
	b := someBytes(3, 1<<17)
	want := bytes.Clone(b)
	want[0] ^= 7
	want[1<<17-1] ^= 9
	if c := frame.Turn(frame.Turn(b, 1<<17-1, []byte{9, 9}), -1, []byte{9, 7}); !bytes.Equal(c, want) {
		t.Error("other bytes than those at both ends were changed")
	}
}

// The rules that arguments, with their unused capacity, are neither modified nor retained, and that results are new.
func TestTurnLeavesItsArguments(t *testing.T) {
	whole, others := []byte("abcdef"), []byte{1, 2, 3, 4}
	for _, at := range []int{-1, 0, 1, 2, 3, 7} {
		c := frame.Turn(whole[:3], at, others[:2])
		fill(c)
		if string(whole) != "abcdef" || !bytes.Equal(others, []byte{1, 2, 3, 4}) {
			t.Fatalf("Turn at %d changed its arguments: %q, %v", at, whole, others)
		}
	}
	// The same bytes may be both arguments.
	if c := frame.Turn(whole, 1, whole); !bytes.Equal(c, []byte{'a', 'b' ^ 'a', 'c' ^ 'b', 'd' ^ 'c', 'e' ^ 'd', 'f' ^ 'e'}) {
		t.Errorf("%v", c)
	}
	c, d := frame.Turn(whole, 0, nil), frame.Turn(nil, 0, whole)
	fill(whole)
	if string(c) != "abcdef" || len(d) != 0 {
		t.Errorf("results changed with an argument: %q, %q", c, d)
	}
}
