package message_test

import (
	"bytes"
	"runtime"
	"strings"
	"testing"
	"unsafe"

	"squinch/api"
	"squinch/message"
)

// spare returns bytes with unused capacity that is filled, and a function that reports whether both are as they were.
func spare(b []byte) ([]byte, func() bool) {
	whole := append(append(make([]byte, 0, len(b)+64), b...), bytes.Repeat([]byte{0xa5}, 64)...)
	before := bytes.Clone(whole)
	return whole[:len(b)], func() bool { return bytes.Equal(whole, before) }
}

// P1: Get does not change its argument, nor what lies behind it, with errors or without.
func TestArgumentIsLeft(t *testing.T) {
	for _, x := range validMessages() {
		right, _ := message.Put(x.m)
		for _, b := range [][]byte{right, right[:len(right)-1], right[:3], framed(string(right)), {}} {
			arg, same := spare(b)
			message.Get(arg)
			if !same() {
				t.Errorf("%s: %s was changed", x.name, short(string(b)))
			}
		}
	}
}

// P1: a message that was decoded keeps nothing of the bytes, and bytes that were encoded are each time new.
func TestResultsAreNewMemory(t *testing.T) {
	for _, x := range validMessages() {
		b, _ := message.Put(x.m)
		c, _ := message.Put(x.m)
		m, e := message.Get(b)
		for k := range b[:cap(b)] {
			b[:cap(b)][k] ^= 0xff
		}
		if m != x.m || e != api.OK {
			t.Errorf("%s: the message was changed, %d", x.name, e)
		}
		checkGet(t, x.name, c, x.m)
		if d, _ := message.Put(x.m); !bytes.Equal(c, d) {
			t.Errorf("%s: other bytes", x.name)
		}
	}
}

// P1: a reply does not hold on to a greater string from which its body was cut.
func TestReplyKeepsNothing(t *testing.T) {
	whole := strings.Repeat("x", 1<<20)
	for _, body := range []string{whole, whole[:5], whole[9:10]} {
		r := message.Reply(aCall, 0, body)
		if r.Body != body || unsafe.StringData(r.Body) == unsafe.StringData(body) {
			t.Errorf("a body of %d is kept", len(body))
		}
	}
}

// P1: Get makes no more memory than the bytes are worth, whatever lengths they claim.
func TestMemory(t *testing.T) {
	great := uint64(1) << 40
	for _, b := range [][]byte{
		framed(join(1, 1, 1, 0, great)), framed(join(1, 1, 1, 0, great, "x")), framed(join(0, 1, 1, 1, 0, great, "g", 0)),
		framed(join(1, 1, 1, 0, uint64(api.MaxBody))), framed(join(0, 1, 1, 1, 0, uint64(api.MaxText), "g", 0)), make([]byte, 1<<24),
	} {
		var before, after runtime.MemStats
		runtime.ReadMemStats(&before)
		for range 10 {
			checkNone(t, "bytes", b)
		}
		runtime.ReadMemStats(&after)
		if n := after.TotalAlloc - before.TotalAlloc; n > 1<<16 {
			t.Errorf("%s: %d bytes were made", short(string(b)), n)
		}
	}
}

// P1: bodies and names that are far too long are seen by their length, or by little of them.
func TestFarTooLong(t *testing.T) {
	great := strings.Repeat("m", 1<<28)
	for range 100 {
		for _, x := range []struct {
			m    api.Message
			want api.Errno
		}{
			{changed(aCall, func(m *api.Message) { m.Body = great }), api.ErrMsgLong},
			{changed(aReply, func(m *api.Message) { m.Body = great }), api.ErrMsgLong},
			{changed(aCall, func(m *api.Message) { m.Method = great }), api.ErrMsgForm},
			{changed(aReply, func(m *api.Message) { m.Method = great }), api.ErrMsgForm},
		} {
			checkErrors(t, "far too long", x.m, x.want)
		}
	}
}
