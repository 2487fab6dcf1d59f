package vm

import (
	"slices"

	"squinch/api"
)

// call is one of the nested calls of a run.
//
// A method that layer 8 does not accept may take values and come to instructions that do not exist, and push values without end. Nothing is promised for it but that nothing panics: it gets null for such a value and a return for such an instruction, and what is beyond MaxStack is left out.
type call struct {
	class    string // the one to which the method belongs
	method   api.Method
	at, next int // the current instruction, and the one at which the call goes on after it
	stack    []api.Value
	locals   map[int64]api.Value // those that are set
}

// instr returns the current instruction.
func (c *call) instr() api.Instr {
	if c.at < 0 || c.at >= len(c.method.Code) {
		return api.Instr{Op: "return"}
	}
	return c.method.Code[c.at]
}

func (c *call) push(v api.Value) {
	if len(c.stack) < api.MaxStack {
		c.stack = append(c.stack, v)
	}
}

// take takes values from the stack and returns them, the top of the stack last.
func (c *call) take(n int) []api.Value {
	taken := make([]api.Value, n)
	left := max(len(c.stack)-n, 0)
	copy(taken, c.stack[left:])
	c.stack = slices.Delete(c.stack, left, len(c.stack))
	return taken
}

// result takes the value that the call returns, null if there is none.
func (c *call) result() api.Value {
	if c.method.Result == "" {
		return api.Value{}
	}
	return c.take(1)[0]
}

// catch lets the call go on at the first catch for what was thrown, and reports whether there is one. isA reports whether the object is one of a class.
func (c *call) catch(thrown api.Value, isA func(class string) bool) bool {
	n := slices.IndexFunc(c.method.Catches, func(x api.Catch) bool {
		return x.From <= c.at && c.at < x.To && isA(x.Class)
	})
	if n < 0 {
		return false
	}
	c.next, c.stack = c.method.Catches[n].At, []api.Value{thrown}
	return true
}
