package message_test

import (
	"math"
	"strings"
	"testing"

	"squinch/api"
	"squinch/message"
)

// checkErrors demands an error of Check and of Put.
func checkErrors(t *testing.T, name string, m api.Message, want api.Errno) {
	t.Helper()
	if e := message.Check(m); e != want {
		t.Errorf("%s: Check %d, want %d", name, e, want)
	}
	if b, e := message.Put(m); len(b) != 0 || e != want {
		t.Errorf("%s: Put %s, %d, want %d", name, short(string(b)), e, want)
	}
}

// P14.1: all that is valid.
func TestValid(t *testing.T) {
	for _, x := range validMessages() {
		if e := message.Check(x.m); e != api.OK {
			t.Errorf("%s: %d", x.name, e)
		}
	}
}

// P14.1: each thing that a call or a reply may lack to be valid.
func TestNotValid(t *testing.T) {
	for _, x := range brokenMessages() {
		checkErrors(t, x.name, x.m, api.ErrMsgForm)
	}
}

// P14.1: a body that is too long comes before everything else.
func TestLongBody(t *testing.T) {
	for _, n := range []int{api.MaxBody + 1, api.MaxBody + 2, api.MaxFrame, 1 << 20} {
		for _, x := range append([]someMessage{{"some call", aCall}, {"some reply", aReply}}, brokenMessages()...) {
			x.m.Body = strings.Repeat("x", n)
			checkErrors(t, x.name, x.m, api.ErrMsgLong)
		}
	}
}

// P14.1: the longest body does not hide another error.
func TestLongestBody(t *testing.T) {
	for _, x := range brokenMessages() {
		x.m.Body = strings.Repeat("x", api.MaxBody)
		checkErrors(t, x.name, x.m, api.ErrMsgForm)
	}
}

// P14.1: Check against a second definition, with all combinations of few values.
func TestCombinations(t *testing.T) {
	numbers := []uint64{0, 1, 2, math.MaxUint64}
	valid := 0
	for code := range 4 * 4 * 4 * 4 * 4 * 4 * 4 * 2 {
		pick := func(n int) int {
			i := code % n
			code /= n
			return i
		}
		m := api.Message{
			Kind: []int{0, 1, 2, -1}[pick(4)],
			Life: numbers[pick(4)], Seq: numbers[pick(4)], Below: numbers[pick(4)], Object: numbers[pick(4)],
			Method: []string{"", "go", "Go", "go."}[pick(4)],
			Way:    []int{0, 2, 3, -1}[pick(4)],
			Body:   []string{"", "x"}[pick(2)],
		}
		want := secondCheck(m)
		if e := message.Check(m); e != want {
			t.Fatalf("%s: %d, want %d", show(m), e, want)
		}
		if want == api.OK {
			valid++
		}
	}
	if valid < 100 {
		t.Errorf("%d valid ones", valid)
	}
}
