package code

import (
	"squinch/api"
	"squinch/pack"
)

// Put encodes instructions as bytes.
func Put(l ...api.Instr) ([]byte, api.Errno) {
	w := pack.Write()
	w.Num(uint64(len(l)))
	e := each(l, func(i api.Instr, n int, o operator) {
		w.Num(uint64(n))
		switch {
		case o.has == number:
			w.Int(i.N)
		case o.has.isText():
			w.Text(i.S)
		}
	})
	if e != api.OK {
		return nil, e
	}
	return w.Bytes(), api.OK
}

// Take reads instructions from a reader.
func Take(r *pack.Reader) []api.Instr {
	var l []api.Instr
	for range r.Count(api.MaxCode) {
		i, valid := takeOne(r)
		if !valid {
			return nil
		}
		l = append(l, i)
	}
	if _, e := r.Err(); e != api.OK {
		return nil
	}
	return l
}

// takeOne stops at an operator that does not exist: what follows has no meaning, and must not bring the reader an error.
func takeOne(r *pack.Reader) (api.Instr, bool) {
	o, exists := numbered(r.Num())
	if !exists {
		return api.Instr{}, false
	}
	i := api.Instr{Op: o.name}
	switch {
	case o.has == number:
		i.N = r.Int()
	case o.has.isText():
		i.S = r.Text()
	}
	return i, Check(i) == api.OK
}

// Get decodes instructions from bytes.
func Get(b []byte) ([]api.Instr, api.Errno) {
	l := Take(pack.Read(b))
	// An empty list may be what failed, and bytes may be left: both show in that b is not its encoding.
	if whole, e := Put(l...); e != api.OK || string(whole) != string(b) {
		return nil, api.ErrCodeForm
	}
	return l, api.OK
}
