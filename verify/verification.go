package verify

import (
	"squinch/api"
	"squinch/hier"
	"squinch/step"
)

// verification is what is known so far of a method that has instructions.
type verification struct {
	table   *hier.Table
	method  api.Method
	shapes  []api.Shape
	changed map[int]struct{} // the instructions that are still to be processed
	first   int              // none of them has an index below this
}

// begin returns the verification of a method of which no instruction has been processed yet.
func begin(t *hier.Table, class string, m api.Method) *verification {
	v := &verification{table: t, method: m, shapes: make([]api.Shape, len(m.Code)), changed: map[int]struct{}{}}
	v.change(0, step.Begin(class, m))
	return v
}

// run processes instructions until none is left, and returns the index of the first one with an error.
func (v *verification) run() (int, api.Errno) {
	for len(v.changed) > 0 {
		at := v.next()
		if e := v.process(at); e != api.OK {
			return at, e
		}
	}
	return 0, api.OK
}

// next takes the least index from those of the instructions that are still to be processed.
func (v *verification) next() int {
	at := v.first
	for n := range len(v.shapes) - v.first {
		at = v.first + n
		if _, ok := v.changed[at]; ok {
			break
		}
	}
	delete(v.changed, at)
	v.first = at
	return at
}

func (v *verification) process(at int) api.Errno {
	i := v.method.Code[at]
	successors, ok := step.Next(v.method.Code, at)
	if !ok {
		return noSuccessor(i)
	}
	if e := v.mergeCatches(at); e != api.OK {
		return e
	}
	after, e := step.Do(v.table, v.method, i, v.shapes[at])
	if e != api.OK {
		return e
	}
	return v.merge(successors, func(int) api.Shape { return after })
}

// noSuccessor returns the error of an instruction that leads to a place that does not exist.
func noSuccessor(i api.Instr) api.Errno {
	if i.Op == "jump" || i.Op == "branch" {
		return api.ErrVerifyJump
	}
	return api.ErrVerifyFall
}

// mergeCatches merges what is known if an instruction throws. If that changes the shape of the instruction itself, it changes the stack alone, so that the locals are the same for all catches.
func (v *verification) mergeCatches(at int) api.Errno {
	var targets []int
	var classes []string
	for _, c := range v.method.Catches {
		if c.From <= at && at < c.To {
			targets, classes = append(targets, c.At), append(classes, c.Class)
		}
	}
	locals := v.shapes[at].Locals
	return v.merge(targets, func(n int) api.Shape {
		return api.Shape{Seen: true, Stack: []string{classes[n]}, Locals: locals}
	})
}

// merge replaces the shape of each target by the Merge of itself and what is given for it.
func (v *verification) merge(targets []int, given func(n int) api.Shape) api.Errno {
	for n, to := range targets {
		// Only a catch that is not valid leads here. The chapter has no error of its own for it, but what it throws could not go on.
		if to < 0 || to >= len(v.shapes) {
			return api.ErrVerifyJump
		}
		s, e := step.Merge(v.table, v.shapes[to], given(n))
		if e != api.OK {
			return e
		}
		v.change(to, s)
	}
	return api.OK
}

// change replaces the shape of an instruction, which is to be processed if it is another one.
func (v *verification) change(at int, s api.Shape) {
	if step.Same(v.shapes[at], s) {
		return
	}
	v.shapes[at] = s
	v.changed[at] = struct{}{}
	v.first = min(v.first, at)
}
