package message_test

import (
	"math"
	"strings"
	"testing"

	"squinch/api"
	"squinch/message"
)

// P14.2: what a reply has of the call, and what not.
func TestReply(t *testing.T) {
	for _, x := range validCalls() {
		for way := range 3 {
			for _, body := range bodies() {
				r := message.Reply(x.m, way, body)
				if r != (api.Message{Kind: 1, Life: x.m.Life, Seq: x.m.Seq, Way: way, Body: body}) {
					t.Fatalf("%s: %s", x.name, show(r))
				}
				if e := message.Check(r); e != api.OK || !message.Answers(r, x.m) || message.Answers(x.m, r) {
					t.Fatalf("%s: %s: %d", x.name, show(r), e)
				}
			}
		}
	}
}

// P14.2, P1: ways and bodies that no valid reply has, and messages that are no valid calls.
func TestReplyToAnything(t *testing.T) {
	long := strings.Repeat("x", api.MaxBody+1)
	for _, x := range append(validMessages(), brokenMessages()...) {
		for _, way := range []int{0, 3, -1, math.MinInt, math.MaxInt} {
			for _, body := range []string{"", "b", long} {
				r := message.Reply(x.m, way, body)
				if r != (api.Message{Kind: 1, Life: x.m.Life, Seq: x.m.Seq, Way: way, Body: body}) {
					t.Fatalf("%s: %s", x.name, show(r))
				}
			}
		}
	}
}

// P14.2: the first one is a reply, the second one a call, and their Life and Seq are the same.
func TestAnswers(t *testing.T) {
	kinds := []int{0, 1, 2, -1, 1 << 32, 1<<32 + 1}
	numbers := []uint64{0, 1, 2, 1 << 32, 1<<32 + 1, math.MaxUint64}
	for _, a := range kinds {
		for _, b := range kinds {
			for _, life := range numbers {
				for _, seq := range numbers {
					for _, otherLife := range numbers {
						for _, otherSeq := range numbers {
							reply := api.Message{Kind: a, Life: life, Seq: seq}
							call := api.Message{Kind: b, Life: otherLife, Seq: otherSeq}
							want := a == 1 && b == 0 && life == otherLife && seq == otherSeq
							if message.Answers(reply, call) != want {
								t.Fatalf("%s, %s: not %t", show(reply), show(call), want)
							}
						}
					}
				}
			}
		}
	}
}

// P14.2: nothing else counts, not even whether they are valid.
func TestAnswersWhateverElse(t *testing.T) {
	for _, x := range append(validMessages(), brokenMessages()...) {
		reply, call := x.m, x.m
		reply.Kind, call.Kind = 1, 0
		if !message.Answers(reply, aCallOf(x.m)) || !message.Answers(aReplyTo(x.m), call) || !message.Answers(reply, call) {
			t.Errorf("%s: no answer", x.name)
		}
		if message.Answers(call, reply) || message.Answers(reply, reply) || message.Answers(call, call) {
			t.Errorf("%s: an answer", x.name)
		}
	}
}

// aCallOf returns a call with the Life and the Seq of a message.
func aCallOf(m api.Message) api.Message {
	return changed(aCall, func(c *api.Message) { c.Life, c.Seq = m.Life, m.Seq })
}

// aReplyTo returns a reply with the Life and the Seq of a message.
func aReplyTo(m api.Message) api.Message {
	return changed(aReply, func(r *api.Message) { r.Life, r.Seq = m.Life, m.Seq })
}
