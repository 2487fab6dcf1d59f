package message_test

import (
	"bytes"
	"math"
	"math/rand"
	"testing"

	"squinch/api"
	"squinch/message"
)

// inverted returns bytes with the bits of a pattern inverted, the lowest of the pattern at the bit from; nil if one of them lies behind the bytes.
func inverted(b []byte, from int, pattern uint32) []byte {
	c := bytes.Clone(b)
	for i := from; pattern != 0; i++ {
		if i >= 8*len(c) {
			return nil
		}
		c[i/8] ^= byte(pattern&1) << (i % 8)
		pattern >>= 1
	}
	return c
}

// checkDamage inverts bits of an encoding and demands that the result is none.
func checkDamage(t *testing.T, name string, b []byte, from int, patterns ...uint32) {
	t.Helper()
	for _, p := range patterns {
		c := inverted(b, from, p)
		if c == nil {
			continue
		}
		if bytes.Equal(b, c) {
			t.Fatalf("%s: nothing was inverted", name)
		}
		if m, e := message.Get(c); m != (api.Message{}) || e != api.ErrMsgForm {
			t.Fatalf("%s: %#x at bit %d of %d bytes: %s, %d", name, p, from, len(b), show(m), e)
		}
	}
}

// P14.3: in small messages, at each bit, many patterns of at most 32 bits.
func TestDamageOfSmallMessages(t *testing.T) {
	dice := rand.New(rand.NewSource(14))
	for _, m := range []api.Message{aCall, aReply, {Kind: 1, Life: 1, Seq: 1}, {Life: 1, Seq: 1, Below: 1, Method: "a"}, {Kind: 1, Life: math.MaxUint64, Seq: 1 << 63, Way: 2, Body: "\x00\x00\xff\xff"}} {
		b, _ := message.Put(m)
		for from := range 8 * len(b) {
			patterns := []uint32{0xedb88320, 0xedb88321, 0x04c11db7, 0xaaaaaaab, 0x55555555, 0x80000001}
			for i := range 32 {
				patterns = append(patterns, 1<<i, math.MaxUint32>>i, 1|1<<i)
			}
			for range 100 {
				patterns = append(patterns, dice.Uint32()|1)
			}
			checkDamage(t, show(m), b, from, patterns...)
		}
	}
}

// P14.3: every pattern within 16 bits, at each bit of one message where it may begin.
func TestAllDamageWithinSixteenBits(t *testing.T) {
	b, _ := message.Put(api.Message{Kind: 1, Life: 1, Seq: 2, Way: 1, Body: "x"})
	for from := range 8 * len(b) {
		for p := uint32(1); p < 1<<16; p += 2 {
			checkDamage(t, "reply", b, from, p)
		}
	}
}

// P14.3: in all kinds of messages, long ones too, at some bits, and at both ends.
func TestDamageOfAllMessages(t *testing.T) {
	dice := rand.New(rand.NewSource(15))
	for _, x := range validMessages() {
		b, _ := message.Put(x.m)
		last := 8*len(b) - 1
		for _, from := range []int{0, 1, 7, 8, 15, 31, last - 63, last - 32, last - 31, last - 8, last, dice.Intn(last), dice.Intn(last), dice.Intn(last)} {
			if from >= 0 {
				checkDamage(t, x.name, b, from, 1, 1<<31|1, math.MaxUint32, 0xedb88321, dice.Uint32()|1)
			}
		}
	}
}
