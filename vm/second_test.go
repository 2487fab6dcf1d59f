package vm_test

import (
	"fmt"
	"math/big"
	"slices"
	"strings"

	"squinch/api"
	"squinch/hier"
)

// second is a second definition of a run, without a heap and without a list of calls: objects are pointers, nested calls are nested calls of a function, and numbers are computed without bounds before they are cut to 64 bits. It takes from hier the classes alone.
type second struct {
	classes map[string]api.Class
	left    int      // of the room
	made    []*thing // all objects, in order
	outs    []int64
	trace   []string       // where it was before each instruction, as look tells it
	most    int            // how many instructions it may execute
	seen    map[string]int // how often each operator was executed, and each class of fault caused
}

// thing is an object or an array. A value is nil, a number, a bool, a text or a thing.
type thing struct {
	at     int
	kind   string
	names  []string // of the fields
	values []any
}

// over is what ends a run, wherever it is.
type over struct{ way int }

// unset is the value of a local that is not set.
type unset struct{}

func newSecond(h *hier.Table, room, most int) *second {
	s := &second{classes: map[string]api.Class{}, left: room, most: most, seen: map[string]int{}}
	for _, name := range h.Names() {
		s.classes[name], _ = h.Get(name)
	}
	return s
}

// is reports whether a kind is a subkind of another one that exists.
func (s *second) is(kind, of string) bool {
	if kind == of || of == "Object" {
		return true
	}
	c, ok := s.classes[kind]
	return ok && (s.is(c.Super, of) || slices.ContainsFunc(c.Like, func(like string) bool { return s.is(like, of) }))
}

// fields returns the names and the kinds of all fields of a class.
func (s *second) fields(class string) (names, kinds []string) {
	c, ok := s.classes[class]
	if !ok {
		return nil, nil
	}
	names, kinds = s.fields(c.Super)
	for _, f := range c.Fields {
		names, kinds = append(names, f.Name), append(kinds, f.Kind)
	}
	return names, kinds
}

// method looks for a method of a class, and if there is none, for one of its interfaces or of those from which it is derived.
func (s *second) method(class, name string) (string, api.Method, bool) {
	c, ok := s.classes[class]
	if !ok {
		return "", api.Method{}, false
	}
	for _, m := range c.Methods {
		if m.Name == name {
			return class, m, true
		}
	}
	for _, up := range append([]string{c.Super}, c.Like...) {
		if owner, m, ok := s.method(up, name); ok {
			return owner, m, true
		}
	}
	return "", api.Method{}, false
}

// create returns a new thing, or nil if there is no room.
func (s *second) create(kind string, names, kinds []string) *thing {
	if s.left < 1+len(kinds) {
		return nil
	}
	s.left -= 1 + len(kinds)
	o := &thing{at: len(s.made), kind: kind, names: names}
	for _, k := range kinds {
		zero, plain := map[string]any{"int": int64(0), "bool": false, "text": ""}[k]
		if !plain {
			zero = nil
		}
		o.values = append(o.values, zero)
	}
	s.made = append(s.made, o)
	return o
}

func (s *second) fault(class string) *thing {
	s.seen[class]++
	names, kinds := s.fields(class)
	o := s.create(class, names, kinds)
	if o == nil {
		panic(over{api.EndFull})
	}
	return o
}

// run executes a whole run, and returns how it ended.
func (s *second) run(owner string, m api.Method, args []any) (end api.Ending) {
	defer func() {
		if o, ok := recover().(over); ok {
			end = api.Ending{Way: o.way}
		}
	}()
	v, thrown := s.invoke(owner, m, args, 1)
	if thrown != nil {
		return api.Ending{Way: api.EndThrown, Value: value(thrown)}
	}
	return api.Ending{Way: api.EndValue, Value: value(v)}
}

// invoke executes a method, and returns its value, or what it has thrown.
func (s *second) invoke(owner string, m api.Method, args []any, deep int) (any, *thing) {
	f := &activation{second: s, owner: owner, method: m, deep: deep, locals: slices.Clone(args)}
	for len(f.locals) < m.Locals {
		f.locals = append(f.locals, unset{})
	}
	for {
		f.look()
		i := m.Code[f.at]
		if s.seen[i.Op]++; i.Op == "return" {
			if m.Result == "" {
				return nil, nil
			}
			return f.pop(), nil
		}
		thrown := f.do(i)
		if thrown == nil {
			continue
		}
		if !f.handle(thrown) {
			return nil, thrown
		}
	}
}

// activation is one call.
type activation struct {
	*second
	owner  string
	method api.Method
	at     int
	deep   int
	stack  []any
	locals []any
}

func (f *activation) look() {
	if len(f.trace) == f.most {
		panic(over{api.EndNot})
	}
	stack, locals := kindsOf(f.stack), kindsOf(f.locals)
	f.trace = append(f.trace, fmt.Sprintf("%s.%s %d %d [%s] %s", f.owner, f.method.Name, f.at, f.deep, show(stack), show(locals)))
}

// handle goes on at the catch for what was thrown, if there is one.
func (f *activation) handle(thrown *thing) bool {
	for _, c := range f.method.Catches {
		if c.From > f.at || f.at >= c.To || !f.is(thrown.kind, c.Class) {
			continue
		}
		f.seen["caught"]++
		f.at, f.stack = c.At, []any{thrown}
		return true
	}
	return false
}

func kindsOf(l []any) []string {
	var kinds []string
	for _, v := range l {
		switch x := v.(type) {
		case nil:
			kinds = append(kinds, "null")
		case int64:
			kinds = append(kinds, "int")
		case bool:
			kinds = append(kinds, "bool")
		case string:
			kinds = append(kinds, "text")
		case *thing:
			kinds = append(kinds, x.kind)
		default:
			kinds = append(kinds, "")
		}
	}
	return kinds
}

// value returns a value as one of api.
func value(v any) api.Value {
	switch x := v.(type) {
	case int64:
		return num(x)
	case bool:
		return map[bool]api.Value{false: flag(0), true: flag(1)}[x]
	case string:
		return text(x)
	case *thing:
		return ref(x.at)
	}
	return null
}

// cells returns all objects as a heap does.
func (s *second) cells() []api.Cell {
	var l []api.Cell
	for _, o := range s.made {
		c := api.Cell{Kind: o.kind}
		for _, v := range o.values {
			c.Values = append(c.Values, value(v))
		}
		l = append(l, c)
	}
	return l
}

func (f *activation) pop() any {
	v := f.stack[len(f.stack)-1]
	f.stack = slices.Clone(f.stack[:len(f.stack)-1])
	return v
}

func (f *activation) push(v any) { f.stack = append(f.stack, v) }

func (f *activation) int() int64 { return f.pop().(int64) }

// object takes a reference; it returns nil for null.
func (f *activation) object() *thing {
	o, _ := f.pop().(*thing)
	return o
}

// do executes an instruction other than return, and goes on behind it unless it returns what is thrown.
func (f *activation) do(i api.Instr) *thing {
	to := f.at + 1
	switch i.Op {
	case "int":
		f.push(i.N)
	case "true", "false":
		f.push(i.Op == "true")
	case "word":
		f.push(i.S)
	case "null":
		f.push(nil)
	case "load":
		f.push(f.locals[i.N])
	case "store":
		f.locals[i.N] = f.pop()
	case "pop":
		f.pop()
	case "dup":
		f.push(f.stack[len(f.stack)-1])
	case "swap":
		b, a := f.pop(), f.pop()
		f.stack = append(f.stack, b, a)
	case "jump":
		to = int(i.N)
	case "branch":
		if f.pop() == true {
			to = int(i.N)
		}
	case "out":
		f.outs = append(f.outs, f.int())
	default:
		if thrown := f.compute(i); thrown != nil {
			return thrown
		}
	}
	f.at = to
	return nil
}

func (f *activation) compute(i api.Instr) *thing {
	switch i.Op {
	case "add", "sub", "mul", "div", "rem", "and", "or", "xor", "shl", "shr":
		b, a := big.NewInt(f.int()), big.NewInt(f.int())
		if (i.Op == "div" || i.Op == "rem") && b.Sign() == 0 {
			return f.fault("ZeroFault")
		}
		f.push(arithmetic(i.Op, a, b))
	case "neg":
		f.push(cut(big.NewInt(0).Neg(big.NewInt(f.int()))))
	case "less":
		b, a := f.int(), f.int()
		f.push(a < b)
	case "same", "equal":
		b, a := f.pop(), f.pop()
		f.push(a == b)
	case "not":
		f.push(f.pop() == false)
	case "both":
		b, a := f.pop(), f.pop()
		f.push(a == true && b == true)
	case "join":
		b, a := f.pop().(string), f.pop().(string)
		if len(a+b) > 4096 {
			return f.fault("RoomFault")
		}
		f.push(a + b)
	case "is":
		o := f.object()
		f.push(o != nil && f.is(o.kind, i.S))
	case "cast":
		o, ok := f.stack[len(f.stack)-1].(*thing)
		if ok && !f.is(o.kind, i.S) {
			return f.fault("CastFault")
		}
	default:
		return f.handleObjects(i)
	}
	return nil
}

// arithmetic computes without bounds.
func arithmetic(op string, a, b *big.Int) int64 {
	z := new(big.Int)
	places := uint(new(big.Int).And(b, big.NewInt(63)).Uint64())
	compute := map[string]func() *big.Int{
		"add": func() *big.Int { return z.Add(a, b) }, "sub": func() *big.Int { return z.Sub(a, b) }, "mul": func() *big.Int { return z.Mul(a, b) },
		"div": func() *big.Int { return z.Quo(a, b) }, "rem": func() *big.Int { return z.Rem(a, b) },
		"and": func() *big.Int { return z.And(a, b) }, "or": func() *big.Int { return z.Or(a, b) }, "xor": func() *big.Int { return z.Xor(a, b) },
		"shl": func() *big.Int { return z.Lsh(a, places) }, "shr": func() *big.Int { return z.Rsh(a, places) },
	}
	return cut(compute[op]())
}

// cut returns a number modulo 2^64.
func cut(z *big.Int) int64 {
	whole := new(big.Int).Lsh(big.NewInt(1), 64)
	z = new(big.Int).Mod(z, whole)
	if z.Bit(63) == 1 {
		z.Sub(z, whole)
	}
	return z.Int64()
}

func (f *activation) handleObjects(i api.Instr) *thing {
	class, name, _ := strings.Cut(i.S, ".")
	switch i.Op {
	case "new":
		names, kinds := f.fields(i.S)
		o := f.create(i.S, names, kinds)
		if o == nil {
			return f.fault("RoomFault")
		}
		f.push(o)
	case "array":
		n := f.int()
		if n < 0 {
			return f.fault("IndexFault")
		}
		if n >= int64(f.left) {
			return f.fault("RoomFault")
		}
		f.push(f.create(i.S+"[]", nil, slices.Repeat([]string{i.S}, int(n))))
	case "put", "set":
		v, at := f.pop(), int64(0)
		if i.Op == "set" {
			at = f.int()
		}
		return f.change(f.object(), at, name, func(place *any) { *place = v })
	case "get", "at":
		at := int64(0)
		if i.Op == "at" {
			at = f.int()
		}
		return f.change(f.object(), at, name, func(place *any) { f.push(*place) })
	case "size", "throw":
		o := f.object()
		if o == nil {
			return f.fault("NullFault")
		}
		if i.Op == "throw" {
			return o
		}
		f.push(int64(len(o.values)))
	case "call":
		return f.call(class, name)
	}
	return nil
}

// change gives the place of a field, or of an element if there is no name of a field.
func (f *activation) change(o *thing, at int64, field string, to func(place *any)) *thing {
	if o == nil {
		return f.fault("NullFault")
	}
	if field != "" {
		at = int64(slices.Index(o.names, field))
	}
	for n := range o.values {
		if int64(n) == at {
			to(&o.values[n])
			return nil
		}
	}
	return f.fault("IndexFault")
}

func (f *activation) call(class, name string) *thing {
	_, declared, _ := f.second.method(class, name)
	var args []any
	for range 1 + len(declared.Params) {
		args = append([]any{f.pop()}, args...)
	}
	o, ok := args[0].(*thing)
	if !ok {
		return f.fault("NullFault")
	}
	if f.deep == 32 {
		panic(over{api.EndDeep})
	}
	owner, m, _ := f.second.method(o.kind, name)
	v, thrown := f.invoke(owner, m, args, f.deep+1)
	if thrown == nil && m.Result != "" {
		f.push(v)
	}
	return thrown
}
