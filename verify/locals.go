package verify

import (
	"slices"

	"squinch/api"
)

// A method may have any number of locals, of which only those of the object, of the parameters, and those that its instructions name can ever be set. The verification leaves out all others, so that it takes no time and no memory for them.

// usedLocals returns the numbers of the locals that may be set, in order.
func usedLocals(m api.Method) []int64 {
	var used []int64
	for n := range len(m.Params) + 1 {
		used = append(used, int64(n))
	}
	for _, i := range m.Code {
		if namesLocal(i) && 0 <= i.N && i.N < int64(m.Locals) {
			used = append(used, i.N)
		}
	}
	slices.Sort(used)
	return slices.Compact(used)
}

// narrow returns a method with the used locals only, which are numbered anew.
func narrow(m api.Method, used []int64) api.Method {
	m.Code = slices.Clone(m.Code)
	for at, i := range m.Code {
		// The number of a local that did not exist stays as it is: there are not more locals than before.
		if n, ok := slices.BinarySearch(used, i.N); ok && namesLocal(i) {
			m.Code[at].N = int64(n)
		}
	}
	m.Locals = len(used)
	return m
}

// widen gives the locals of shapes their numbers back.
func widen(shapes []api.Shape, used []int64, locals int) {
	for at, s := range shapes {
		if !s.Seen {
			continue
		}
		shapes[at].Locals = make([]string, locals)
		for n, local := range s.Locals {
			shapes[at].Locals[used[n]] = local
		}
	}
}

func namesLocal(i api.Instr) bool { return i.Op == "load" || i.Op == "store" }
