package message

import (
	"math"

	"squinch/api"
	"squinch/frame"
	"squinch/pack"
)

// Put encodes a message.
func Put(m api.Message) ([]byte, api.Errno) {
	if e := Check(m); e != api.OK {
		return nil, e
	}
	w := pack.Write()
	w.Num(uint64(m.Kind), m.Life, m.Seq)
	if m.Kind == kindCall {
		w.Num(m.Below, m.Object)
		w.Text(m.Method)
	} else {
		w.Num(uint64(m.Way))
	}
	// A writer takes any string, so that a body may be longer than a text, and need not be UTF-8.
	w.Text(m.Body)
	return frame.Put(w.Bytes())
}

// Get decodes a message.
func Get(b []byte) (api.Message, api.Errno) {
	content, e := frame.Get(b)
	if e != api.OK {
		return api.Message{}, api.ErrMsgForm
	}
	m, ok := read(content)
	if !ok || Check(m) != api.OK {
		return api.Message{}, api.ErrMsgForm
	}
	return m, api.OK
}

// read returns the message of which some bytes are the content, valid or not, and whether there is one.
func read(content []byte) (api.Message, bool) {
	r := pack.Read(content)
	// A number that no int holds stays one that no valid message has.
	integer := func(number func() uint64) int { return int(min(number(), math.MaxInt)) }
	m := api.Message{Kind: integer(r.Num), Life: r.Num(), Seq: r.Num()}
	if m.Kind == kindCall {
		m.Below, m.Object, m.Method = r.Num(), r.Num(), r.Text()
	} else {
		m.Way = integer(r.Num)
	}
	// A reader takes only texts, so that the bytes of the body are cut from behind their length.
	size := integer(r.Num)
	body := content[len(content)-r.Left():]
	m.Body = string(body)
	_, e := r.Err()
	return m, e == api.OK && size == len(body)
}
