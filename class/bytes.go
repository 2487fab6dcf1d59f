package class

import (
	"slices"

	"squinch/api"
	"squinch/code"
	"squinch/pack"
)

const maxClasses = 64

// Put encodes a class.
func Put(c api.Class) ([]byte, api.Errno) {
	if e := Check(c); e != api.OK {
		return nil, e
	}
	return putClass(c), api.OK
}

// Get decodes a class.
func Get(b []byte) (api.Class, api.Errno) {
	c := takeClass(pack.Read(b))
	// What could not be read, was not read or is not valid shows in that b is not the encoding of c.
	if whole, e := Put(c); e != api.OK || string(whole) != string(b) {
		return api.Class{}, api.ErrClassForm
	}
	return c, api.OK
}

// Pack encodes classes.
func Pack(l []api.Class) ([]byte, api.Errno) {
	if len(l) > maxClasses {
		return nil, api.ErrClassMany
	}
	for _, c := range l {
		if e := Check(c); e != api.OK {
			return nil, e
		}
	}
	return putList(l, putClass), api.OK
}

// Unpack decodes classes.
func Unpack(b []byte) ([]api.Class, api.Errno) {
	r := pack.Read(b)
	l := takeList(r, maxClasses, func() api.Class { return takeClass(r) })
	// As in Get.
	if whole, e := Pack(l); e != api.OK || string(whole) != string(b) {
		return nil, api.ErrClassForm
	}
	return l, api.OK
}

// The encodings of parts are put together as bytes, since those of instructions come as bytes from their layer.

func putClass(c api.Class) []byte {
	return slices.Concat(
		texts(c.Name, c.Super),
		putList(c.Like, func(s string) []byte { return texts(s) }),
		flags(c.Interface, c.Abstract, c.Final),
		putList(c.Fields, putField),
		putList(c.Methods, putMethod),
	)
}

func putField(f api.Field) []byte { return slices.Concat(texts(f.Name, f.Kind), flags(f.Transient)) }

func putMethod(m api.Method) []byte {
	head := slices.Concat(
		texts(m.Name),
		putList(m.Params, func(s string) []byte { return texts(s) }),
		texts(m.Result),
		flags(m.Abstract),
	)
	if m.Abstract {
		return head
	}
	// The method was checked, so its instructions have no error.
	body, _ := code.Put(m.Code...)
	return slices.Concat(head, nums(m.Locals), body, putList(m.Catches, putCatch))
}

func putCatch(c api.Catch) []byte { return slices.Concat(nums(c.From, c.To, c.At), texts(c.Class)) }

func putList[T any](l []T, put func(x T) []byte) []byte {
	b := nums(len(l))
	for _, x := range l {
		b = append(b, put(x)...)
	}
	return b
}

func texts(l ...string) []byte {
	w := pack.Write()
	w.Text(l...)
	return w.Bytes()
}

func flags(l ...bool) []byte {
	w := pack.Write()
	w.Flag(l...)
	return w.Bytes()
}

func nums(l ...int) []byte {
	w := pack.Write()
	for _, n := range l {
		w.Num(uint64(n))
	}
	return w.Bytes()
}

func takeClass(r *pack.Reader) api.Class {
	c := api.Class{Name: r.Text(), Super: r.Text()}
	c.Like = takeList(r, api.MaxParts, r.Text)
	c.Interface, c.Abstract, c.Final = r.Flag(), r.Flag(), r.Flag()
	c.Fields = takeList(r, api.MaxParts, func() api.Field { return takeField(r) })
	c.Methods = takeList(r, api.MaxParts, func() api.Method { return takeMethod(r) })
	return c
}

func takeField(r *pack.Reader) api.Field {
	return api.Field{Name: r.Text(), Kind: r.Text(), Transient: r.Flag()}
}

func takeMethod(r *pack.Reader) api.Method {
	m := api.Method{Name: r.Text()}
	m.Params = takeList(r, api.MaxParts, r.Text)
	m.Result, m.Abstract = r.Text(), r.Flag()
	if m.Abstract {
		return m
	}
	m.Locals = int(r.Num())
	m.Code = code.Take(r)
	m.Catches = takeList(r, api.MaxParts, func() api.Catch { return takeCatch(r) })
	return m
}

func takeCatch(r *pack.Reader) api.Catch {
	return api.Catch{From: int(r.Num()), To: int(r.Num()), At: int(r.Num()), Class: r.Text()}
}

func takeList[T any](r *pack.Reader, most int, take func() T) []T {
	var l []T
	for range r.Count(most) {
		l = append(l, take())
	}
	return l
}
