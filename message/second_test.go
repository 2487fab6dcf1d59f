package message_test

import (
	"encoding/binary"
	"hash/crc32"
	"regexp"

	"squinch/api"
)

// A second definition of what the package does, from other parts: regular expressions, varints and sums of the library.

var memberName = regexp.MustCompile(`^[a-z][a-zA-Z0-9]{0,31}$`)

func secondCheck(m api.Message) api.Errno {
	if len(m.Body) > 8192 {
		return 141
	}
	valid := m.Life != 0 && m.Seq != 0
	switch m.Kind {
	case 0:
		valid = valid && m.Below >= 1 && m.Below <= m.Seq && memberName.MatchString(m.Method) && m.Way == 0
	case 1:
		valid = valid && m.Below == 0 && m.Object == 0 && m.Method == "" && (m.Way == 0 || m.Way == 1 || m.Way == 2)
	default:
		valid = false
	}
	if !valid {
		return 140
	}
	return 0
}

func secondPut(m api.Message) ([]byte, api.Errno) {
	if e := secondCheck(m); e != 0 {
		return nil, e
	}
	b := []byte{byte(m.Kind)}
	b = binary.AppendUvarint(b, m.Life)
	b = binary.AppendUvarint(b, m.Seq)
	if m.Kind == 0 {
		b = binary.AppendUvarint(b, m.Below)
		b = binary.AppendUvarint(b, m.Object)
		b = append(b, byte(len(m.Method)))
		b = append(b, m.Method...)
	} else {
		b = append(b, byte(m.Way))
	}
	b = binary.AppendUvarint(b, uint64(len(m.Body)))
	b = append(b, m.Body...)
	return binary.LittleEndian.AppendUint32(b, crc32.ChecksumIEEE(b)), 0
}

// secondGet guesses a message from the bytes, carelessly, and then asks whether they are its encoding: where a message has this encoding, the guess is right.
func secondGet(b []byte) (api.Message, api.Errno) {
	m := secondGuess(b)
	if c, e := secondPut(m); e != 0 || string(c) != string(b) {
		return api.Message{}, 140
	}
	return m, 0
}

func secondGuess(b []byte) api.Message {
	number := func() uint64 {
		n, k := binary.Uvarint(b)
		b = b[max(0, k):]
		return n
	}
	bytes := func(n uint64) string {
		n = min(n, uint64(len(b)))
		s := string(b[:n])
		b = b[n:]
		return s
	}
	m := api.Message{Kind: int(number()), Life: number(), Seq: number()}
	if m.Kind == 0 {
		m.Below, m.Object = number(), number()
		m.Method = bytes(number())
	} else {
		m.Way = int(number())
	}
	m.Body = bytes(number())
	return m
}
