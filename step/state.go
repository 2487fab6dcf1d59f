package step

import (
	"strings"

	"squinch/api"
	"squinch/hier"
	"squinch/kind"
)

const (
	number  = "int"
	truth   = "bool"
	word    = "text"
	nothing = "null"
	fault   = "Fault"
)

// state is what an instruction changes. After the first error nothing that is done to it matters, so that effects need not ask for errors: they only have to meet them in the order of P7.2.
type state struct {
	table         *hier.Table
	method        api.Method
	instr         api.Instr
	stack, locals []string
	err           api.Errno
}

// require has an error, unless there is one already, if a condition does not hold.
func (x *state) require(holds bool, e api.Errno) {
	if x.err == api.OK && !holds {
		x.err = e
	}
}

// take takes one value for each test, the last one from the top of the stack, and returns them. If there are too few, it takes nothing and returns empty strings.
func (x *state) take(tests ...func(string) bool) []string {
	taken := make([]string, len(tests))
	left := len(x.stack) - len(tests)
	x.require(left >= 0, api.ErrVerifyStack)
	if x.err != api.OK {
		return taken
	}
	copy(taken, x.stack[left:])
	x.stack = x.stack[:left]
	for i, test := range tests {
		x.require(test(taken[i]), api.ErrVerifyKind)
	}
	return taken
}

func (x *state) push(kinds ...string) {
	for _, s := range kinds {
		x.stack = append(x.stack, strings.Clone(s))
	}
}

// local returns the local that the instruction names, or one that is not set.
func (x *state) local() *string {
	n := x.instr.N
	if n < 0 || n >= int64(len(x.locals)) {
		x.require(false, api.ErrVerifyLocal)
		return new(string)
	}
	return &x.locals[n]
}

// field returns the class that the instruction names, and the kind of its field.
func (x *state) field() (string, string) {
	// A text that is no member is split into empty names, and no class has one.
	class, name, _ := kind.Parts(x.instr.S)
	place := x.table.Place(class, name)
	if place < 0 {
		x.require(false, api.ErrVerifyName)
		return "", ""
	}
	return class, x.table.Fields(class)[place].Kind
}

// called returns the class that the instruction names, and the method that it has.
func (x *state) called() (string, api.Method) {
	class, name, _ := kind.Parts(x.instr.S)
	_, m, ok := x.table.Method(class, name)
	x.require(ok, api.ErrVerifyName)
	return class, m
}

// named returns the kind that the instruction names.
func (x *state) named() string {
	s := x.instr.S
	x.require(s != nothing && x.table.Kind(s), api.ErrVerifyName)
	return s
}

// sub returns the test for subkinds of a kind.
func (x *state) sub(of string) func(string) bool {
	return func(s string) bool { return x.table.Sub(s, of) }
}

// reference tests for a reference kind.
func (x *state) reference(s string) bool { return x.table.Kind(s) && !kind.Plain(s) }

func anything(string) bool { return true }

// arrayOf returns the test for arrays, which notes the kind of their elements.
func arrayOf(elem *string) func(string) bool {
	return func(s string) bool {
		*elem = kind.Elem(s)
		return *elem != ""
	}
}
