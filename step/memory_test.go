package step_test

import (
	"slices"
	"strings"
	"testing"
	"unsafe"

	"squinch/api"
	"squinch/step"
)

// roomy returns a list whose unused capacity is filled, and a check that all of it is as it was.
func roomy(t *testing.T, l ...string) ([]string, func()) {
	t.Helper()
	whole := append(slices.Clone(l), "rest", "rest", "rest")
	before := slices.Clone(whole)
	return whole[:len(l)], func() {
		t.Helper()
		if !slices.Equal(whole, before) {
			t.Errorf("%q became %q", before, whole)
		}
	}
}

// shares reports whether lists, or strings in them, lie in the same memory.
func shares(a, b []string) bool {
	for _, s := range a {
		if s != "" && slices.ContainsFunc(b, func(r string) bool { return r != "" && unsafe.StringData(r) == unsafe.StringData(s) }) {
			return true
		}
	}
	// Lists share memory exactly if they end, with their capacity, at the same place.
	return cap(a) > 0 && cap(b) > 0 && &a[:cap(a)][cap(a)-1] == &b[:cap(b)][cap(b)-1]
}

// checkNew checks that a shape shares no memory with lists, nor its own two lists with each other.
func checkNew(t *testing.T, what string, s api.Shape, given ...[]string) {
	t.Helper()
	for _, l := range given {
		if shares(s.Stack, l) || shares(s.Locals, l) {
			t.Errorf("%s: %+v shares the memory of %q", what, s, l)
		}
	}
	if shares(s.Stack, s.Locals) {
		t.Errorf("%s: the lists of %+v share memory", what, s)
	}
}

// The rules that arguments, with their unused capacity, are left alone, and that results are new.
func TestMemoryOfDo(t *testing.T) {
	h := zoo(t)
	for _, x := range []struct{ instr, stack string }{
		{"int 5", "A"}, {"null", "A"}, {"load 1", "A"}, {"store 1", "A text[]"}, {"pop", "A B"}, {"dup", "A"}, {"swap", "A int"}, {"add", "A int int"}, {"jump 0", "A"},
		{"new Object", "A"}, {"get A.next", "B"}, {"call A.h", "A"}, {"array A", "int"}, {"at", "A[] int"}, {"cast B", "A"}, {"put A.x", "B A int"}, {"return", "A A"},
	} {
		stack, sameStack := roomy(t, strings.Fields(x.stack)...)
		locals, sameLocals := roomy(t, "A", "text[]", "", "int")
		i, m := instr(x.instr), api.Method{Result: "A"}
		got, e := step.Do(h, m, i, api.Shape{Seen: true, Stack: stack, Locals: locals})
		if e != api.OK {
			t.Errorf("%s on %s: %d", x.instr, x.stack, e)
		}
		checkNew(t, x.instr, got, stack, locals, []string{i.S, i.Op, m.Result})
		for _, l := range [][]string{got.Stack[:cap(got.Stack)], got.Locals[:cap(got.Locals)]} {
			for k := range l {
				l[k] = "changed"
			}
		}
		sameStack()
		sameLocals()
	}
	// One list may be both the stack and the locals.
	both, same := roomy(t, "A", "int")
	got, _ := step.Do(h, api.Method{}, instr("store 0"), api.Shape{Stack: both, Locals: both})
	if !equal(got, shape("A", "int int")) {
		t.Errorf("store: %+v", got)
	}
	same()
}

func TestMemoryOfMerge(t *testing.T) {
	h := zoo(t)
	seen := []bool{true, false}
	for _, seenA := range seen {
		for _, seenB := range seen {
			stackA, sameA := roomy(t, "B", "null", "A")
			stackB, sameB := roomy(t, "C", "text[]", "A")
			localsA, sameC := roomy(t, "B", "", "int", "E")
			localsB, sameD := roomy(t, "A", "int", "int", "F")
			got, e := step.Merge(h, api.Shape{Seen: seenA, Stack: stackA, Locals: localsA}, api.Shape{Seen: seenB, Stack: stackB, Locals: localsB})
			if e != api.OK || len(got.Stack) != 3 || len(got.Locals) != 4 {
				t.Errorf("Merge: %+v, %d", got, e)
			}
			checkNew(t, "Merge", got, stackA, stackB, localsA, localsB)
			got.Stack = append(got.Stack, "changed")
			got.Locals[0] = "changed"
			sameA()
			sameB()
			sameC()
			sameD()
		}
	}
}

func TestMemoryOfBegin(t *testing.T) {
	for _, locals := range []int{1, 2, 3, 5} {
		class := strings.Clone("Node")
		params, same := roomy(t, "int", "A[]")
		got := step.Begin(class, api.Method{Params: params, Locals: locals})
		checkNew(t, "Begin", got, params, []string{class})
		for i := range got.Locals {
			got.Locals[i] = "changed"
		}
		same()
	}
}

// A list that Next returned may be changed.
func TestMemoryOfNext(t *testing.T) {
	l := []api.Instr{{Op: "branch", N: 2}, {Op: "pop"}, {Op: "return"}}
	first, _ := step.Next(l, 0)
	first[0], first[1] = 9, 9
	if second, ok := step.Next(l, 0); !ok || !slices.Equal(second, []int{1, 2}) || l[0].N != 2 {
		t.Errorf("Next: %v, %v", second, ok)
	}
}
