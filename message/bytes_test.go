package message_test

import (
	"bytes"
	"math"
	"strings"
	"testing"

	"squinch/api"
	"squinch/frame"
	"squinch/message"
)

// P14.1: bytes that are written out: the example of the document, least and greatest numbers, and bodies that are no texts.
func TestBytes(t *testing.T) {
	greatest := "\xff\xff\xff\xff\xff\xff\xff\xff\xff\x01"
	name := strings.Repeat("m", 32)
	long := strings.Repeat("\xff", 8192)
	for _, x := range []struct {
		name, content string
		m             api.Message
	}{
		{"the example", "\x00\x01\x02\x02\x03\x02go\x01x", api.Message{Life: 1, Seq: 2, Below: 2, Object: 3, Method: "go", Body: "x"}},
		{"the least call", "\x00\x01\x01\x01\x00\x01a\x00", api.Message{Life: 1, Seq: 1, Below: 1, Method: "a"}},
		{"the least reply", "\x01\x01\x01\x00\x00", api.Message{Kind: 1, Life: 1, Seq: 1}},
		{"a reply of two bytes", "\x01\x80\x01\xac\x02\x02\x02\x00\x01", api.Message{Kind: 1, Life: 128, Seq: 300, Way: 2, Body: "\x00\x01"}},
		{"no UTF-8", "\x01\x01\x02\x01\x03a\xc3b", api.Message{Kind: 1, Life: 1, Seq: 2, Way: 1, Body: "a\xc3b"}},
		{
			"the longest call", "\x00" + greatest + greatest + greatest + greatest + "\x20" + name + "\x80\x40" + long,
			api.Message{Life: math.MaxUint64, Seq: math.MaxUint64, Below: math.MaxUint64, Object: math.MaxUint64, Method: name, Body: long},
		},
		{"the longest reply", "\x01" + greatest + greatest + "\x02\x80\x40" + long, api.Message{Kind: 1, Life: math.MaxUint64, Seq: math.MaxUint64, Way: 2, Body: long}},
		{"a body as long as a text", "\x01\x01\x01\x00\x80\x20" + long[:4096], api.Message{Kind: 1, Life: 1, Seq: 1, Body: long[:4096]}},
		{"a longer one", "\x01\x01\x01\x00\x81\x20" + long[:4097], api.Message{Kind: 1, Life: 1, Seq: 1, Body: long[:4097]}},
	} {
		b, e := message.Put(x.m)
		if string(b) != string(framed(x.content)) || e != api.OK {
			t.Errorf("%s: %s, %d", x.name, short(string(b)), e)
		}
		checkGet(t, x.name, framed(x.content), x.m)
	}
	b, _ := message.Put(api.Message{Life: 1, Seq: 2, Below: 2, Object: 3, Method: "go", Body: "x"})
	if want := join("\x00\x01\x02\x02\x03\x02go\x01x", "G\xc0\xa0\x7f"); string(b) != want {
		t.Errorf("%q, want %q", b, want)
	}
}

// P14.1: each valid message has the encoding of a second definition, from which it comes back.
func TestDecodingUndoesEncoding(t *testing.T) {
	for _, x := range validMessages() {
		b, e := message.Put(x.m)
		want, _ := secondPut(x.m)
		if !bytes.Equal(b, want) || e != api.OK {
			t.Errorf("%s: %s, %d", x.name, short(string(b)), e)
		}
		checkGet(t, x.name, b, x.m)
		if c, e := frame.Get(b); e != api.OK || len(c) != len(b)-4 {
			t.Errorf("%s: no frame, %d", x.name, e)
		}
	}
}

// P14.1: bytes that lack, at the end of the frame and, with a right sum, at the end of the content.
func TestTooFewBytes(t *testing.T) {
	checkNone(t, "nil", nil)
	for _, x := range validMessages() {
		b, _ := message.Put(x.m)
		step := max(1, len(b)/50)
		for n := 0; n < len(b); n += step {
			checkNone(t, x.name, b[:n])
			checkNone(t, x.name, b[n+1:])
		}
		content := string(b[:len(b)-4])
		step = max(1, len(content)/50)
		for n := 0; n < len(content); n += step {
			checkNone(t, x.name, framed(content[:n]))
			checkNone(t, x.name, framed(content[n+1:]))
		}
		checkNone(t, x.name, framed(content[:len(content)-1]))
		checkNone(t, x.name, b[:len(b)-1])
	}
}

// P14.1: bytes more, behind the frame and, with a right sum, behind the content or ahead of it.
func TestTooManyBytes(t *testing.T) {
	for _, x := range validMessages() {
		b, _ := message.Put(x.m)
		content := string(b[:len(b)-4])
		for _, more := range []string{"\x00", "\x01", "x", "\xff", "\x00\x00\x00\x00", content} {
			checkNone(t, x.name, append(bytes.Clone(b), more...))
			checkNone(t, x.name, append([]byte(more), b...))
			checkNone(t, x.name, framed(content+more))
			checkNone(t, x.name, framed(more+content))
		}
	}
}

// P14.1: messages that are not valid, written as if they were: what a reader alone would let pass.
func TestEncodingsOfNoMessage(t *testing.T) {
	name := strings.Repeat("m", 33)
	long := strings.Repeat("m", api.MaxText+1)
	for _, content := range []string{
		"", "\x00", "\x01",
		join(0, 0, 1, 1, 0, 1, "g", 0), join(0, 1, 0, 0, 0, 1, "g", 0), join(0, 1, 0, 1, 0, 1, "g", 0), // no Life, no Seq
		join(0, 1, 1, 0, 0, 1, "g", 0), join(0, 1, 1, 2, 0, 1, "g", 0), join(0, 1, uint64(300), uint64(301), 0, 1, "g", 0), // Below
		join(0, 1, 1, uint64(math.MaxUint64), 0, 1, "g", 0),
		join(0, 1, 1, 1, 0, 0, 0), join(0, 1, 1, 1, 0, 1, "G", 0), join(0, 1, 1, 1, 0, 1, "9", 0), join(0, 1, 1, 1, 0, 1, "\xff", 0), // Method
		join(0, 1, 1, 1, 0, 3, "A.g", 0), join(0, 1, 1, 1, 0, 3, "g[]", 0), join(0, 1, 1, 1, 0, 2, "é", 0), join(0, 1, 1, 1, 0, 3, "gé", 0),
		join(0, 1, 1, 1, 0, 33, name, 0), join(0, 1, 1, 1, 0, uint64(len(long)), long, 0), join(0, 1, 1, 1, 0, uint64(math.MaxUint64), "g", 0),
		join(0, 1, 1, 1, 0, 2, "g", 0), join(0, 1, 1, 1, 0, 0, "g", 0), // as if the name were longer, or shorter
		join(1, 0, 1, 0, 0), join(1, 1, 0, 0, 0), // no Life, no Seq
		join(1, 1, 1, 3, 0), join(1, 1, 1, uint64(1<<32), 0), join(1, 1, 1, uint64(1<<63), 0), join(1, 1, 1, uint64(math.MaxUint64), 0), // Way
		join(1, 1, 1, 0, 1, "xy"), join(1, 1, 1, 0, 2, "x"), join(1, 1, 1, 0, 0, "x"), join(1, 1, 1, 0, 1), // the length of Body
		join(1, 1, 1, 0, uint64(1<<32), "x"), join(1, 1, 1, 0, uint64(1<<32+1), "x"), join(1, 1, 1, 0, uint64(1<<63), "x"), join(1, 1, 1, 0, uint64(math.MaxUint64), "x"),
		join(1, 1, 1, 0), join(1, 1, 1), join(0, 1, 1, 1, 0, 1, "g"),
		join(1, 1, 1, 1, 1, 1, "g", 0), // a reply with what calls have
		join(0, 1, 1, 0, 0),            // a call with what replies have
	} {
		checkNone(t, "content", framed(content))
	}
}

// P14.1: a Kind other than 0 and 1, with what calls have, and with what replies have.
func TestOtherKinds(t *testing.T) {
	for _, n := range []uint64{2, 3, 127, 128, 1 << 31, 1 << 32, 1<<32 + 1, 1 << 63, 1<<63 + 1, math.MaxUint64 - 1, math.MaxUint64} {
		checkNone(t, "a call", framed(join(n, 1, 1, 1, 0, 1, "g", 0)))
		checkNone(t, "a reply", framed(join(n, 1, 1, 0, 0)))
	}
}

// P14.1: numbers with more bytes than they need, and such that have more than 64 bits.
func TestNumbersInAnotherForm(t *testing.T) {
	for _, parts := range [][]any{
		{"\x00", "\x01", "\x02", "\x02", "\x03", "\x02", "go", "\x01", "x"},
		{"\x00", "\x01", "\x02", "\x02", "\x00", "\x02", "go", "\x00"},
		{"\x01", "\x01", "\x02", "\x02", "\x01", "x"},
		{"\x01", "\x01", "\x02", "\x00", "\x00"},
	} {
		for i, p := range parts {
			s := p.(string)
			if s >= "\x20" {
				continue
			}
			more := int(s[0]) | 0x80
			for _, other := range []string{
				join(more, 0), "\x80\x00", join(more, 0x80, 0),
				"\x80\x80\x80\x80\x80\x80\x80\x80\x80\x02", "\xff\xff\xff\xff\xff\xff\xff\xff\xff\x7f", "\x80\x80\x80\x80\x80\x80\x80\x80\x80\x80\x01",
			} {
				l := append([]any(nil), parts...)
				l[i] = other
				checkNone(t, "number", framed(join(l...)))
			}
		}
	}
}

// P14.1: Get has ErrMsgForm also for bodies and frames that are too long.
func TestTooLong(t *testing.T) {
	for _, n := range []int{api.MaxBody + 1, api.MaxBody + 2, 2 * api.MaxBody, api.MaxFrame - 8} {
		body := strings.Repeat("x", n)
		checkNone(t, "call", framed(join(0, 1, 1, 1, 0, 1, "g", uint64(n), body)))
		checkNone(t, "reply", framed(join(1, 1, 1, 0, uint64(n), body)))
	}
	for _, n := range []int{api.MaxFrame - 1, api.MaxFrame, api.MaxFrame + 1, api.MaxFrame + 4, api.MaxFrame + 5, 1 << 20} {
		for _, content := range []string{join(1, 1, 1, 0, 1, "x"), join(1, 1, 1, 0, uint64(n-7)), ""} {
			checkNone(t, "content", framed(content+strings.Repeat("x", n-len(content))))
		}
		checkNone(t, "bytes", make([]byte, n))
	}
}

// P14.1: a right content with another sum.
func TestOtherSums(t *testing.T) {
	for _, x := range validMessages() {
		b, _ := message.Put(x.m)
		n := len(b) - 4
		for _, sum := range []string{"\x00\x00\x00\x00", "\xff\xff\xff\xff", string([]byte{b[n+3], b[n+2], b[n+1], b[n]}), string([]byte{^b[n], ^b[n+1], ^b[n+2], ^b[n+3]})} {
			checkNone(t, x.name, append(bytes.Clone(b[:n]), sum...))
		}
		checkNone(t, x.name, b[:n])
	}
}
