package message_test

import (
	"bytes"
	"math"
	"math/rand"
	"strings"
	"testing"

	"squinch/api"
	"squinch/message"
)

// someNumber returns a small number, a great one, or one beside a power of 2.
func someNumber(dice *rand.Rand) uint64 {
	switch dice.Intn(3) {
	case 0:
		return uint64(dice.Intn(4))
	case 1:
		return uint64(1)<<dice.Intn(64) + uint64(dice.Intn(3)) - 1
	default:
		return dice.Uint64()
	}
}

// someString returns a string of some of these letters.
func someString(dice *rand.Rand, most int, letters string) string {
	s := []byte{}
	for range dice.Intn(most + 1) {
		s = append(s, letters[dice.Intn(len(letters))])
	}
	return string(s)
}

// someValid returns a message that is nearly always valid.
func someValid(dice *rand.Rand) api.Message {
	m := api.Message{Life: someNumber(dice), Seq: someNumber(dice), Body: someString(dice, 12, "ax\x00\x01\x80\xff")}
	if dice.Intn(40) == 0 {
		m.Body = strings.Repeat(m.Body, dice.Intn(2000))
	}
	if dice.Intn(2) == 0 {
		m.Kind, m.Way = 1, dice.Intn(3)
		return m
	}
	m.Below, m.Object, m.Method = m.Seq, someNumber(dice), "m"+someString(dice, 31, "azAZ09")
	if dice.Intn(2) == 0 {
		m.Below = someNumber(dice)
	}
	return m
}

// broken returns a message with one field that is often not right.
func broken(dice *rand.Rand, m api.Message) api.Message {
	switch dice.Intn(8) {
	case 0:
		m.Kind = dice.Intn(5) - 1
	case 1:
		m.Life = 0
	case 2:
		m.Seq = someNumber(dice)
	case 3:
		m.Below = someNumber(dice)
	case 4:
		m.Object = someNumber(dice)
	case 5:
		m.Method = someString(dice, 34, "azAZ09. _\x00\xff")
	case 6:
		m.Way = int(someNumber(dice))
	case 7:
		m.Body = strings.Repeat("x", api.MaxBody-2+dice.Intn(5))
	}
	return m
}

// checkRound holds Check, Put and Get against the second definition.
func checkRound(t *testing.T, m api.Message) (valid bool) {
	t.Helper()
	want, wantError := secondPut(m)
	if e := message.Check(m); e != wantError {
		t.Fatalf("%s: Check %d, want %d", show(m), e, wantError)
	}
	b, e := message.Put(m)
	if !bytes.Equal(b, want) || e != wantError {
		t.Fatalf("%s: %s, %d, want %d", show(m), short(string(b)), e, wantError)
	}
	if e != api.OK {
		return false
	}
	if c, e := message.Get(b); c != m || e != api.OK {
		t.Fatalf("%s: %s, %d", show(m), show(c), e)
	}
	return true
}

// P14.1: random messages, valid ones and others.
func TestRandomMessages(t *testing.T) {
	dice := rand.New(rand.NewSource(1))
	valid, other := 0, 0
	for range 30000 {
		m := someValid(dice)
		if dice.Intn(2) == 0 {
			m = broken(dice, m)
		}
		if checkRound(t, m) {
			valid++
		} else {
			other++
		}
	}
	if valid < 5000 || other < 5000 {
		t.Errorf("%d valid ones, %d others", valid, other)
	}
}

// checkSecondGet holds Get against the second definition, and reports whether it gave a message.
func checkSecondGet(t *testing.T, b []byte) bool {
	t.Helper()
	want, wantError := secondGet(b)
	m, e := message.Get(b)
	if m != want || e != wantError {
		t.Fatalf("%s: %s, %d, want %s, %d", short(string(b)), show(m), e, show(want), wantError)
	}
	return e == api.OK
}

// P14.1: encodings with changes whose sum is right, so that only the content tells.
func TestRandomContents(t *testing.T) {
	dice := rand.New(rand.NewSource(2))
	right := 0
	for range 60000 {
		b, e := message.Put(someValid(dice))
		if e != api.OK {
			continue
		}
		content := b[:len(b)-4]
		for range 1 + dice.Intn(2) {
			at := dice.Intn(len(content))
			switch dice.Intn(4) {
			case 0:
				content[at] = byte(dice.Intn(256))
			case 1:
				content[at] = "\x00\x01\x02\x03\x7f\x80\x81\xff"[dice.Intn(8)]
			case 2:
				content = append(content[:at:at], content[min(len(content), at+1):]...)
			case 3:
				content = append(content[:at:at], append([]byte{byte(dice.Intn(4))}, content[at:]...)...)
			}
			if len(content) == 0 {
				break
			}
		}
		if checkSecondGet(t, framed(string(content))) {
			right++
		}
	}
	if right < 1000 {
		t.Errorf("%d right ones", right)
	}
}

// P14.1: all short contents of some telling bytes, with their sum.
func TestAllShortContents(t *testing.T) {
	right := 0
	for _, x := range []struct {
		letters string
		most    int
	}{{"\x00\x01g\x02", 9}, {"\x00\x01\x02\x03\x80x", 6}, {"\x01\x80\x00", 10}} {
		all := [][]byte{nil}
		for n := range x.most + 1 {
			var longer [][]byte
			for _, content := range all {
				if checkSecondGet(t, framed(string(content))) {
					right++
				}
				for k := range len(x.letters) * min(1, x.most-n) {
					longer = append(longer, append(content[:n:n], x.letters[k]))
				}
			}
			all = longer
		}
	}
	if right < 50 {
		t.Errorf("%d right ones", right)
	}
}

// P14.1, P1: random bytes, of which nearly none are a frame.
func TestRandomBytes(t *testing.T) {
	dice := rand.New(rand.NewSource(3))
	for range 50000 {
		b := make([]byte, dice.Intn(40))
		for k := range b {
			b[k] = byte(dice.Intn(1 + dice.Intn(256)))
		}
		checkSecondGet(t, b)
		checkSecondGet(t, framed(string(b)))
	}
}

// P14.2: random pairs, valid or not.
func TestRandomAnswers(t *testing.T) {
	dice := rand.New(rand.NewSource(4))
	answers := 0
	for range 30000 {
		a, b := broken(dice, someValid(dice)), broken(dice, someValid(dice))
		if dice.Intn(2) == 0 {
			a.Life, a.Seq = b.Life, b.Seq
		}
		want := a.Kind == 1 && b.Kind == 0 && a.Life == b.Life && a.Seq == b.Seq
		if message.Answers(a, b) != want {
			t.Fatalf("%s, %s: not %t", show(a), show(b), want)
		}
		if want {
			answers++
		}
		way := dice.Intn(math.MaxInt)
		if r := message.Reply(a, way, b.Body); r != (api.Message{Kind: 1, Life: a.Life, Seq: a.Seq, Way: way, Body: b.Body}) {
			t.Fatal(show(r))
		}
	}
	if answers < 1000 {
		t.Errorf("%d answers", answers)
	}
}
