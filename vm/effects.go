package vm

import (
	"squinch/api"
	"squinch/kind"
)

// effects returns the effects of all operators.
func effects() map[string]func(*Machine) {
	return map[string]func(*Machine){
		"int": (*Machine).pushNumber, "true": (*Machine).pushTrue, "false": (*Machine).pushFalse,
		"word": (*Machine).pushWord, "null": (*Machine).pushNull,
		"load": (*Machine).load, "store": (*Machine).store,
		"pop": (*Machine).pop, "dup": (*Machine).dup, "swap": (*Machine).swap,
		"add": (*Machine).add, "sub": (*Machine).sub, "mul": (*Machine).mul, "div": (*Machine).div, "rem": (*Machine).rem,
		"and": (*Machine).and, "or": (*Machine).or, "xor": (*Machine).xor, "shl": (*Machine).shl, "shr": (*Machine).shr,
		"neg": (*Machine).neg, "less": (*Machine).less, "same": (*Machine).same,
		"not": (*Machine).not, "both": (*Machine).both, "join": (*Machine).join,
		"jump": (*Machine).jump, "branch": (*Machine).branch, "out": (*Machine).out,
		"new": (*Machine).create, "get": (*Machine).get, "put": (*Machine).put, "call": (*Machine).call,
		"array": (*Machine).createArray, "at": (*Machine).at, "set": (*Machine).set, "size": (*Machine).size,
		"is": (*Machine).is, "cast": (*Machine).cast, "equal": (*Machine).equal,
		"return": (*Machine).leave, "throw": (*Machine).throwTop,
	}
}

func number(n int64) api.Value { return api.Value{Sort: api.Int, N: n} }

func truth(b bool) api.Value {
	if b {
		return api.Value{Sort: api.Bool, N: 1}
	}
	return api.Value{Sort: api.Bool}
}

func word(s string) api.Value { return api.Value{Sort: api.Text, S: s} }

func reference(n int) api.Value { return api.Value{Sort: api.Ref, Ref: n} }

func (m *Machine) instr() api.Instr { return m.inner().instr() }

func (m *Machine) push(v api.Value) { m.inner().push(v) }

func (m *Machine) take(n int) []api.Value { return m.inner().take(n) }

func (m *Machine) pushNumber() { m.push(number(m.instr().N)) }

func (m *Machine) pushTrue() { m.push(truth(true)) }

func (m *Machine) pushFalse() { m.push(truth(false)) }

func (m *Machine) pushWord() { m.push(word(m.instr().S)) }

func (m *Machine) pushNull() { m.push(api.Value{}) }

func (m *Machine) load() { m.push(m.inner().locals[m.instr().N]) }

func (m *Machine) store() { m.inner().locals[m.instr().N] = m.take(1)[0] }

func (m *Machine) pop() { m.take(1) }

func (m *Machine) dup() {
	l := m.take(1)
	m.push(l[0])
	m.push(l[0])
}

func (m *Machine) swap() {
	l := m.take(2)
	m.push(l[1])
	m.push(l[0])
}

func (m *Machine) compute(of func(a, b int64) int64) {
	l := m.take(2)
	m.push(number(of(l[0].N, l[1].N)))
}

func (m *Machine) add() { m.compute(func(a, b int64) int64 { return a + b }) }

func (m *Machine) sub() { m.compute(func(a, b int64) int64 { return a - b }) }

func (m *Machine) mul() { m.compute(func(a, b int64) int64 { return a * b }) }

func (m *Machine) and() { m.compute(func(a, b int64) int64 { return a & b }) }

func (m *Machine) or() { m.compute(func(a, b int64) int64 { return a | b }) }

func (m *Machine) xor() { m.compute(func(a, b int64) int64 { return a ^ b }) }

func (m *Machine) shl() { m.compute(func(a, b int64) int64 { return a << (uint64(b) & 63) }) }

func (m *Machine) shr() { m.compute(func(a, b int64) int64 { return a >> (uint64(b) & 63) }) }

func (m *Machine) divide(of func(a, b int64) int64) {
	l := m.take(2)
	if l[1].N == 0 {
		m.cause(zeroFault)
		return
	}
	m.push(number(of(l[0].N, l[1].N)))
}

func (m *Machine) div() { m.divide(func(a, b int64) int64 { return a / b }) }

func (m *Machine) rem() { m.divide(func(a, b int64) int64 { return a % b }) }

func (m *Machine) neg() { m.push(number(-m.take(1)[0].N)) }

func (m *Machine) compare(holds func(a, b api.Value) bool) {
	l := m.take(2)
	m.push(truth(holds(l[0], l[1])))
}

func (m *Machine) less() { m.compare(func(a, b api.Value) bool { return a.N < b.N }) }

func (m *Machine) same() { m.compare(func(a, b api.Value) bool { return a.N == b.N }) }

func (m *Machine) both() { m.compare(func(a, b api.Value) bool { return a.N != 0 && b.N != 0 }) }

func (m *Machine) equal() { m.compare(func(a, b api.Value) bool { return a == b }) }

func (m *Machine) not() { m.push(truth(m.take(1)[0].N == 0)) }

func (m *Machine) join() {
	l := m.take(2)
	if len(l[0].S)+len(l[1].S) > api.MaxText {
		m.cause(roomFault)
		return
	}
	m.push(word(l[0].S + l[1].S))
}

func (m *Machine) jump() { m.inner().next = int(m.instr().N) }

func (m *Machine) branch() {
	if m.take(1)[0].N != 0 {
		m.jump()
	}
}

func (m *Machine) out() { m.outs = append(m.outs, m.take(1)[0].N) }

// pushNew pushes a reference to an object that the heap was to create.
func (m *Machine) pushNew(n int, e api.Errno) {
	if m.done(e) {
		m.push(reference(n))
	}
}

func (m *Machine) create() { m.pushNew(m.heap.Object(m.instr().S)) }

func (m *Machine) createArray() { m.pushNew(m.heap.Array(m.instr().S, m.take(1)[0].N)) }

// fetch pushes the value of a field or an element.
func (m *Machine) fetch(object api.Value, at int64) {
	if !m.refers(object) {
		return
	}
	if v, e := m.heap.Get(object.Ref, at); m.done(e) {
		m.push(v)
	}
}

// assign assigns a value to a field or an element.
func (m *Machine) assign(object api.Value, at int64, v api.Value) {
	if m.refers(object) {
		m.done(m.heap.Set(object.Ref, at, v))
	}
}

// place returns the index of the field that the instruction names.
func (m *Machine) place() int64 {
	class, name, _ := kind.Parts(m.instr().S)
	return int64(m.heap.Table().Place(class, name))
}

func (m *Machine) get() { m.fetch(m.take(1)[0], m.place()) }

func (m *Machine) put() {
	l := m.take(2)
	m.assign(l[0], m.place(), l[1])
}

func (m *Machine) at() {
	l := m.take(2)
	m.fetch(l[0], l[1].N)
}

func (m *Machine) set() {
	l := m.take(3)
	m.assign(l[0], l[1].N, l[2])
}

func (m *Machine) size() {
	if array := m.take(1)[0]; m.refers(array) {
		m.push(number(int64(m.heap.Size(array.Ref))))
	}
}

func (m *Machine) is() {
	v := m.take(1)[0]
	// null fits every kind that there may be here.
	m.push(truth(v != api.Value{} && m.heap.Fits(v, m.instr().S)))
}

func (m *Machine) cast() {
	v := m.take(1)[0]
	if !m.heap.Fits(v, m.instr().S) {
		m.cause(castFault)
		return
	}
	m.push(v)
}

func (m *Machine) call() {
	class, name, _ := kind.Parts(m.instr().S)
	_, declared, _ := m.heap.Table().Method(class, name)
	args := m.take(1 + len(declared.Params))
	switch {
	case !m.refers(args[0]):
	case m.Deep() == api.MaxCalls:
		m.stop(api.EndDeep, api.Value{})
	default:
		m.begin(name, args)
	}
}

func (m *Machine) leave() {
	c := m.inner()
	v := c.result()
	m.drop()
	switch {
	case m.ended():
		m.stop(api.EndValue, v)
	case c.method.Result != "":
		m.push(v)
	}
}

func (m *Machine) throwTop() {
	if thrown := m.take(1)[0]; m.refers(thrown) {
		m.throw(thrown)
	}
}
