package message_test

import (
	"encoding/binary"
	"hash/crc32"
	"math"
	"strconv"
	"strings"
	"testing"

	"squinch/api"
	"squinch/message"
)

// Two messages from which others are made by a change.
var (
	aCall  = api.Message{Kind: 0, Life: 1, Seq: 300, Below: 2, Object: 3, Method: "go", Body: "xyz"}
	aReply = api.Message{Kind: 1, Life: 7, Seq: 300, Way: 1, Body: "no"}
)

// changed returns a message after a change.
func changed(m api.Message, change func(m *api.Message)) api.Message {
	change(&m)
	return m
}

// someMessage is a message with what it shows.
type someMessage struct {
	name string
	m    api.Message
}

// bodies returns bodies that a message may have: also longer ones than a text may be, and others than UTF-8.
func bodies() []string {
	var all []byte
	for b := range 256 {
		all = append(all, byte(b))
	}
	return []string{
		"", "x", "\x00", "\n", "é", "\xff", "\xc0\x80", "\xed\xa0\x80", string(all),
		strings.Repeat("a", 127), strings.Repeat("b", 128), strings.Repeat("c", api.MaxText), strings.Repeat("d", api.MaxText+1),
		strings.Repeat("\x80", api.MaxText+1), strings.Repeat("e", api.MaxBody-1), strings.Repeat("f", api.MaxBody), strings.Repeat("\xfe", api.MaxBody),
	}
}

// validCalls returns calls with the least and the greatest of all that a valid one may have.
func validCalls() []someMessage {
	l := []someMessage{{"some call", aCall}}
	add := func(name string, change func(m *api.Message)) {
		l = append(l, someMessage{"call with " + name, changed(aCall, change)})
	}
	for _, n := range []uint64{1, 2, 127, 128, 1 << 14, 1<<32 + 1, 1<<63 - 1, 1 << 63, math.MaxUint64} {
		add("Life "+strconv.FormatUint(n, 10), func(m *api.Message) { m.Life = n })
		add("Seq and Below "+strconv.FormatUint(n, 10), func(m *api.Message) { m.Seq, m.Below = n, n })
		add("Below 1 and Seq "+strconv.FormatUint(n, 10), func(m *api.Message) { m.Seq, m.Below = n, 1 })
		add("Object "+strconv.FormatUint(n-1, 10), func(m *api.Message) { m.Object = n - 1 })
	}
	add("the greatest Object", func(m *api.Message) { m.Object = math.MaxUint64 })
	for _, s := range []string{"a", "z", "aZ", "z9A0", "int", "text", strings.Repeat("m", api.MaxName)} {
		add("Method "+s, func(m *api.Message) { m.Method = s })
	}
	for _, s := range bodies() {
		add("Body "+short(s), func(m *api.Message) { m.Body = s })
	}
	return l
}

// validReplies returns replies with the least and the greatest of all that a valid one may have.
func validReplies() []someMessage {
	l := []someMessage{{"some reply", aReply}}
	add := func(name string, change func(m *api.Message)) {
		l = append(l, someMessage{"reply with " + name, changed(aReply, change)})
	}
	for _, n := range []uint64{1, 2, 127, 128, 1 << 14, 1<<32 + 1, 1<<63 - 1, 1 << 63, math.MaxUint64} {
		add("Life "+strconv.FormatUint(n, 10), func(m *api.Message) { m.Life = n })
		add("Seq "+strconv.FormatUint(n, 10), func(m *api.Message) { m.Seq = n })
	}
	for way := range 3 {
		add("Way "+strconv.Itoa(way), func(m *api.Message) { m.Way = way })
		add("no Body and Way "+strconv.Itoa(way), func(m *api.Message) { m.Way, m.Body = way, "" })
	}
	for _, s := range bodies() {
		add("Body "+short(s), func(m *api.Message) { m.Body = s })
	}
	return l
}

func validMessages() []someMessage { return append(validCalls(), validReplies()...) }

// brokenCalls returns calls that lack one thing to be valid.
func brokenCalls() []someMessage {
	l := []someMessage{{"nothing", api.Message{}}}
	add := func(name string, change func(m *api.Message)) {
		l = append(l, someMessage{"call with " + name, changed(aCall, change)})
	}
	add("no Life", func(m *api.Message) { m.Life = 0 })
	add("no Seq", func(m *api.Message) { m.Seq = 0 })
	add("no Seq and no Below", func(m *api.Message) { m.Seq, m.Below = 0, 0 })
	add("no Below", func(m *api.Message) { m.Below = 0 })
	add("Below beyond Seq", func(m *api.Message) { m.Below = m.Seq + 1 })
	add("Below far beyond Seq", func(m *api.Message) { m.Below = math.MaxUint64 })
	add("Below beyond the least Seq", func(m *api.Message) { m.Seq = 1 })
	for _, way := range []int{1, 2, 3, -1, math.MinInt, math.MaxInt} {
		add("Way "+strconv.Itoa(way), func(m *api.Message) { m.Way = way })
	}
	for _, kind := range []int{1, 2, 3, -1, 1 << 32, math.MinInt, math.MaxInt} {
		add("Kind "+strconv.Itoa(kind), func(m *api.Message) { m.Kind = kind })
	}
	for _, s := range []string{
		"", "G", "Go", "9", "9a", "_", "a_b", "a b", " a", "a ", "a.b", "A.b", "int[]", "go\n", "go\x00", "é", "gé", "\xff", "g\xff",
		strings.Repeat("m", api.MaxName+1), strings.Repeat("m", api.MaxText+1),
	} {
		add("Method "+short(s), func(m *api.Message) { m.Method = s })
	}
	return l
}

// brokenReplies returns replies that lack one thing to be valid.
func brokenReplies() []someMessage {
	l := []someMessage{{"nothing but its Kind", api.Message{Kind: 1}}}
	add := func(name string, change func(m *api.Message)) {
		l = append(l, someMessage{"reply with " + name, changed(aReply, change)})
	}
	add("no Life", func(m *api.Message) { m.Life = 0 })
	add("no Seq", func(m *api.Message) { m.Seq = 0 })
	for _, n := range []uint64{1, 300, 301, math.MaxUint64} {
		add("Below "+strconv.FormatUint(n, 10), func(m *api.Message) { m.Below = n })
		add("Object "+strconv.FormatUint(n, 10), func(m *api.Message) { m.Object = n })
	}
	for _, s := range []string{"go", "Go", " ", "\x00"} {
		add("Method "+short(s), func(m *api.Message) { m.Method = s })
	}
	for _, way := range []int{3, 4, -1, 1 << 32, math.MinInt, math.MaxInt} {
		add("Way "+strconv.Itoa(way), func(m *api.Message) { m.Way = way })
	}
	for _, kind := range []int{0, 2, 3, -1, 1<<32 + 1, math.MinInt, math.MaxInt} {
		add("Kind "+strconv.Itoa(kind), func(m *api.Message) { m.Kind = kind })
	}
	return l
}

func brokenMessages() []someMessage { return append(brokenCalls(), brokenReplies()...) }

// short returns a string so that it can be told.
func short(s string) string {
	if len(s) > 40 {
		return strconv.Quote(s[:40]) + ".. of " + strconv.Itoa(len(s))
	}
	return strconv.Quote(s)
}

// join returns the bytes of numbers from 0 to 255, of varints (uint64), and of strings, one after the other.
func join(parts ...any) string {
	var b []byte
	for _, p := range parts {
		switch p := p.(type) {
		case int:
			if p < 0 || p > 255 {
				panic("no byte")
			}
			b = append(b, byte(p))
		case uint64:
			b = binary.AppendUvarint(b, p)
		case string:
			b = append(b, p...)
		default:
			panic("no part")
		}
	}
	return string(b)
}

// framed returns bytes and their sum, however many they are.
func framed(content string) []byte {
	b := []byte(content)
	return binary.LittleEndian.AppendUint32(b, crc32.ChecksumIEEE(b))
}

// checkGet demands a message from some bytes.
func checkGet(t *testing.T, name string, b []byte, want api.Message) {
	t.Helper()
	if m, e := message.Get(b); m != want || e != api.OK {
		t.Errorf("%s: %s: %s, %d", name, short(string(b)), show(m), e)
	}
}

// checkNone demands that some bytes are the encoding of no message.
func checkNone(t *testing.T, name string, b []byte) {
	t.Helper()
	if m, e := message.Get(b); m != (api.Message{}) || e != api.ErrMsgForm {
		t.Errorf("%s: %s: %s, %d", name, short(string(b)), show(m), e)
	}
}

// show returns a message so that it can be told.
func show(m api.Message) string {
	s := ""
	for _, n := range []uint64{uint64(m.Kind), m.Life, m.Seq, m.Below, m.Object, uint64(m.Way)} {
		s += strconv.FormatUint(n, 10) + " "
	}
	return s + short(m.Method) + " " + short(m.Body)
}
