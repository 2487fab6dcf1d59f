package step

import (
	"slices"

	"squinch/api"
	"squinch/kind"
)

// effects returns the effects of all operators.
func effects() map[string]func(*state) {
	return map[string]func(*state){
		"int": (*state).pushNumber, "true": (*state).pushTruth, "false": (*state).pushTruth,
		"word": (*state).pushWord, "null": (*state).pushNull,
		"load": (*state).load, "store": (*state).store,
		"pop": (*state).pop, "dup": (*state).dup, "swap": (*state).swap,
		"add": (*state).compute, "sub": (*state).compute, "mul": (*state).compute, "div": (*state).compute, "rem": (*state).compute,
		"and": (*state).compute, "or": (*state).compute, "xor": (*state).compute, "shl": (*state).compute, "shr": (*state).compute,
		"neg": (*state).negate, "less": (*state).compare, "same": (*state).compare,
		"not": (*state).invert, "both": (*state).both, "join": (*state).join,
		"jump": (*state).jump, "branch": (*state).branch, "out": (*state).out,
		"new": (*state).create, "get": (*state).get, "put": (*state).put, "call": (*state).call,
		"array": (*state).createArray, "at": (*state).at, "set": (*state).set, "size": (*state).size,
		"is": (*state).is, "cast": (*state).cast, "equal": (*state).equal,
		"return": (*state).end, "throw": (*state).throw,
	}
}

func (x *state) pushNumber() { x.push(number) }

func (x *state) pushTruth() { x.push(truth) }

func (x *state) pushWord() { x.push(word) }

func (x *state) pushNull() { x.push(nothing) }

func (x *state) load() {
	local := x.local()
	x.require(*local != "", api.ErrVerifyLocal)
	x.push(*local)
}

func (x *state) store() {
	local := x.local()
	*local = x.take(anything)[0]
}

func (x *state) pop() { x.take(anything) }

func (x *state) dup() {
	taken := x.take(anything)
	x.push(taken[0], taken[0])
}

func (x *state) swap() {
	taken := x.take(anything, anything)
	slices.Reverse(taken)
	x.push(taken...)
}

func (x *state) compute() {
	x.take(x.sub(number), x.sub(number))
	x.push(number)
}

func (x *state) negate() {
	x.take(x.sub(number))
	x.push(number)
}

func (x *state) compare() {
	x.take(x.sub(number), x.sub(number))
	x.push(truth)
}

func (x *state) invert() {
	x.take(x.sub(truth))
	x.push(truth)
}

func (x *state) both() {
	x.take(x.sub(truth), x.sub(truth))
	x.push(truth)
}

func (x *state) join() {
	x.take(x.sub(word), x.sub(word))
	x.push(word)
}

// jump changes nothing: whether its target exists is left to Next.
func (x *state) jump() {}

func (x *state) branch() { x.take(x.sub(truth)) }

func (x *state) out() { x.take(x.sub(number)) }

func (x *state) create() {
	x.require(x.table.Objects(x.instr.S), api.ErrVerifyName)
	x.push(x.instr.S)
}

func (x *state) get() {
	class, of := x.field()
	x.take(x.sub(class))
	x.push(of)
}

func (x *state) put() {
	class, of := x.field()
	x.take(x.sub(class), x.sub(of))
}

func (x *state) call() {
	class, m := x.called()
	tests := []func(string) bool{x.sub(class)}
	for _, s := range m.Params {
		tests = append(tests, x.sub(s))
	}
	x.take(tests...)
	if m.Result != "" {
		x.push(m.Result)
	}
}

func (x *state) createArray() {
	array, e := kind.Of(x.named())
	x.require(e == api.OK, api.ErrVerifyName)
	x.take(x.sub(number))
	x.push(array)
}

func (x *state) at() {
	var elem string
	x.take(arrayOf(&elem), x.sub(number))
	x.push(elem)
}

func (x *state) set() {
	var elem string
	// Which kind the value needs is known only after the array was tested.
	x.take(arrayOf(&elem), x.sub(number), func(s string) bool { return x.table.Sub(s, elem) })
}

func (x *state) size() {
	var elem string
	x.take(arrayOf(&elem))
	x.push(number)
}

func (x *state) is() {
	x.named()
	x.take(x.reference)
	x.push(truth)
}

func (x *state) cast() {
	to := x.named()
	x.take(x.reference)
	x.push(to)
}

func (x *state) equal() {
	x.take(x.reference, x.reference)
	x.push(truth)
}

func (x *state) end() {
	if result := x.method.Result; result != "" {
		x.take(x.sub(result))
	}
}

func (x *state) throw() { x.take(x.sub(fault)) }
