package verify_test

import (
	"math"
	"slices"
	"strings"
	"testing"

	"squinch/api"
	"squinch/code"
	"squinch/verify"
)

// P8.1: the final shapes of methods that are accepted.
func TestShapes(t *testing.T) {
	for _, x := range []struct{ sign, code, want string }{
		{"m()A 2", "null; store 1; load 1; return", "|A -; null|A -; |A null; null|A null"},
		{"m() 1", "return", "|A"},
		{"m() 3", "return", "|A - -"},
		{"m(int,I[])bool 4", "load 1; pop; true; return", "|A int I[] -; int|A int I[] -; |A int I[] -; bool|A int I[] -"},
		{"m()int 1", "int 1; int 2; add; return", "|A; int|A; int int|A; int|A"},
		{"m() 1", "new Bad; throw", "|A; Bad|A"},
		{"m() 1", "jump 0", "|A"},
		{"m() 1", "jump 1; jump 0", "|A; |A"},
		// What is left on the stack at the end does not matter.
		{"m()A 1", "int 1; load 0; return", "|A; int|A; int A|A"},
		// Instructions that are not reached are not looked at, whatever they are.
		{"m() 1", "return; add; jump 99; nop; new Z; load 77", "|A; ?; ?; ?; ?; ?"},
		{"m() 1", "jump 2; pop; return; jump 1", "|A; ?; |A; ?"},
		// Two ways to one instruction: the joins of what is on the stack and in the locals.
		{"m()A 1", "true; branch 4; new B; jump 5; new C; return", "|A; bool|A; |A; B|A; |A; A|A"},
		{"m()A[] 1", "true; branch 4; null; jump 6; int 1; array A; return", "|A; bool|A; |A; null|A; |A; int|A; A[]|A"},
		{"m() 2", "true; branch 4; int 1; store 1; return", "|A -; bool|A -; |A -; int|A -; |A -"},
		{"m() 2", "true; branch 5; int 1; store 1; jump 7; true; store 1; return", "|A -; bool|A -; |A -; int|A -; |A int; |A -; bool|A -; |A -"},
		{"m() 2", "true; branch 5; new B; store 1; jump 8; int 1; array B; store 1; return", "|A -; bool|A -; |A -; B|A -; |A B; |A -; int|A -; B[]|A -; |A Object"},
		{"m() 1", "true; branch 2; return", "|A; bool|A; |A"},
		{"m() 1", "true; branch 0; return", "|A; bool|A; |A"},
		// A loop: what is known before it is less than at first.
		{"m() 2", "new B; store 1; true; branch 7; new C; store 1; jump 2; return", "|A -; B|A -; |A A; bool|A A; |A A; C|A A; |A C; |A A"},
		{"m() 3", "null; store 1; load 1; store 2; load 0; store 1; jump 2", "|A - -; null|A - -; |A A -; A|A A -; |A A A; A|A A A; |A A A"},
	} {
		accepts(t, "A", method(t, x.sign, x.code), x.want)
	}
	accepts(t, "D", method(t, "m()B 2", "load 0; get B.y; return"), "|D -; D|D -; B|D -")
	accepts(t, "I", method(t, "m() 1", "return"), "|I")
	accepts(t, "Object", method(t, "m() 1", "return"), "|Object")
	accepts(t, "ZeroFault", method(t, "m() 1", "load 0; throw"), "|ZeroFault; ZeroFault|ZeroFault")
}

// P8.1: a loop that has to be gone through many times, until nothing changes any more.
func TestShapesOfLoops(t *testing.T) {
	start, loop, goal := "null; store 1; null; store 2; null; store 3; null; store 4; ", "load 3; store 4; load 2; store 3; load 1; store 2; load 0; store 1; ", "true; branch 8; return"
	// Each time, what the first local has comes to one more of the others.
	l, _, e := verify.Method(zoo(t), "A", method(t, "m() 5", start+loop+goal))
	if e != api.OK || show(l[7:9]) != "null|A null null null -; |A A A A A" {
		t.Errorf("%d: %s", e, show(l))
	}
	// Each time, one more of them is not set. The last one is never asked for.
	loop = strings.Replace(loop, "load 0", "true", 1)
	rejects(t, "A", method(t, "m() 5", start+loop+goal), 12, api.ErrVerifyLocal)
	loop = strings.Replace(loop, "load 1; store 2; ", "", 1)
	l, _, e = verify.Method(zoo(t), "A", method(t, "m() 5", start+loop+goal))
	if e != api.OK || show(l[8:9]) != "|A - null null null" {
		t.Errorf("%d: %s", e, show(l))
	}
}

// strange are strings that are no existing kinds, or null.
func strange() []string {
	return []string{"Z", "Z[]", "null", "null[]", "A[][][][]", "[]", "a", "A.x", "A ", " A", "Null", "\xff", strings.Repeat("A", 1<<16), "A" + strings.Repeat("[]", 1<<10)}
}

// P8.1: names that do not exist outside of the instructions, before anything else is looked at.
func TestNamesOfMethods(t *testing.T) {
	for _, text := range []string{"", "return", "int 1; return", "add; return", "jump 9", "nop"} {
		for _, locals := range []int{-1, 0, 1, 2, 5} {
			check := func(class, params, result string, l ...api.Catch) {
				t.Helper()
				m := api.Method{Name: "m", Result: result, Locals: locals, Code: read(text), Catches: l}
				if params != "" {
					m.Params = strings.Split(params, ",")
				}
				rejects(t, class, m, 0, api.ErrVerifyName)
			}
			for _, s := range append(strange(), "", "int", "bool", "text", "A[]", "Fault[]") {
				check(s, "", "")
				check(s, "int", "int")
			}
			for _, s := range strange() {
				check("A", s, "")
				check("A", s+",int", "")
				check("A", "int,A,"+s, "int")
				check("A", "", s)
				check("A", "int", s)
			}
			check("A", "int,,int", "")
			fine := api.Catch{To: 1, Class: "Fault"}
			for _, s := range append(strange(), "", "int", "bool", "text", "A", "I", "Object", "A[]", "Fault[]", "Worse[]") {
				for _, c := range []api.Catch{{To: 1, Class: s}, {Class: s}, {From: 9, To: 5, At: -7, Class: s}} {
					check("A", "", "", c)
					check("A", "int", "int", fine, fine, c)
					check("A", "", "", c, fine)
				}
			}
		}
	}
}

// P8.1: all kinds that a parameter, a result or a catch may have.
func TestNamesThatExist(t *testing.T) {
	for _, s := range strings.Fields("int bool text Object A B C D I T Fault ZeroFault Worse A[] I[][] int[][][] text[] T[] CallFault[]") {
		accepts(t, "A", api.Method{Params: []string{s}, Result: s, Locals: 2, Code: read("load 1; return")}, "|A "+s+"; "+s+"|A "+s)
	}
	for _, s := range strings.Fields("Fault NullFault IndexFault CastFault ZeroFault RoomFault CallFault Bad Worse") {
		accepts(t, "A", method(t, "m() 1", "return; throw", api.Catch{To: 1, At: 1, Class: s}), "|A; "+s+"|A")
	}
}

// P8.1: no instructions, which is asked before the locals.
func TestNoInstructions(t *testing.T) {
	for _, n := range []int{0, -1, 1, 7, math.MinInt, math.MaxInt} {
		for _, abstract := range []bool{true, false} {
			for _, l := range [][]api.Instr{nil, {}} {
				accepts(t, "A", api.Method{Params: []string{"int", "A[]"}, Result: "I", Locals: n, Abstract: abstract, Code: l, Catches: []api.Catch{{From: 0, To: 1, At: 5, Class: "Fault"}}}, "")
			}
		}
	}
	accepts(t, "I", method(t, "m()A", ""), "")
}

// P8.1: too few locals, which is asked before the instructions; just enough; more.
func TestNumberOfLocals(t *testing.T) {
	for n := range 6 {
		params := slices.Repeat([]string{"int"}, n)
		for _, locals := range []int{n, n - 1, 0, -1, -n, math.MinInt} {
			for _, text := range []string{"return", "add", "jump 9", "load 9; return"} {
				rejects(t, "A", api.Method{Params: params, Locals: locals, Code: read(text)}, 0, api.ErrVerifyLocal)
			}
		}
		for more := range 4 {
			accepts(t, "A", api.Method{Params: params, Locals: n + 1 + more, Code: read("return")}, "|A"+strings.Repeat(" int", n)+strings.Repeat(" -", more))
		}
		rejects(t, "A", api.Method{Params: params, Locals: n + 1, Code: read("true; add; return")}, 1, api.ErrVerifyStack)
	}
}

// P8.1: the error and its index, of each step.
func TestErrorsOfInstructions(t *testing.T) {
	for _, x := range []struct {
		sign, code string
		at         int
		e          api.Errno
	}{
		{"m() 1", "jump 1", 0, api.ErrVerifyJump}, {"m() 1", "jump -1", 0, api.ErrVerifyJump}, {"m() 1", "true; pop; jump 3", 2, api.ErrVerifyJump}, {"m() 1", "jump 9223372036854775807; return", 0, api.ErrVerifyJump}, {"m() 1", "jump 4294967296; return", 0, api.ErrVerifyJump},
		{"m() 1", "true; branch 3; return", 1, api.ErrVerifyJump}, {"m() 1", "true; branch -1; return", 1, api.ErrVerifyJump}, {"m() 1", "true; branch 0", 1, api.ErrVerifyJump}, {"m() 1", "true; branch 2", 1, api.ErrVerifyJump},
		{"m() 1", "int 1", 0, api.ErrVerifyFall}, {"m() 1", "true; pop", 1, api.ErrVerifyFall}, {"m() 1", "true; branch 3; return; null", 3, api.ErrVerifyFall}, {"m() 2", "true; store 1", 1, api.ErrVerifyFall},
		{"m() 1", "new Z; return", 0, api.ErrVerifyName}, {"m() 1", "new T; return", 0, api.ErrVerifyName}, {"m() 1", "load 0; get A.y; return", 1, api.ErrVerifyName}, {"m() 1", "true; nop; return", 1, api.ErrVerifyName}, {"m() 1", "load 0; call A.see; return", 1, api.ErrVerifyName},
		{"m() 2", "load 1; return", 0, api.ErrVerifyLocal}, {"m() 2", "load 2; return", 0, api.ErrVerifyLocal}, {"m() 2", "true; store 2; return", 1, api.ErrVerifyLocal}, {"m() 2", "true; store -1; return", 1, api.ErrVerifyLocal}, {"m(int) 2", "load 1; pop; load 9223372036854775807; return", 2, api.ErrVerifyLocal},
		{"m() 1", "add; return", 0, api.ErrVerifyStack}, {"m() 1", "int 1; int 2; add; add; return", 3, api.ErrVerifyStack}, {"m()int 1", "return", 0, api.ErrVerifyStack}, {"m() 1", strings.Repeat("true; ", 25) + "return", 24, api.ErrVerifyStack},
		{"m() 1", "int 1; not; return", 1, api.ErrVerifyKind}, {"m()B 1", "load 0; return", 1, api.ErrVerifyKind}, {"m() 1", "load 0; throw", 1, api.ErrVerifyKind}, {"m(Object) 2", "load 1; get A.x; return", 1, api.ErrVerifyKind}, {"m() 1", "null; branch 0; return", 1, api.ErrVerifyKind},
		{"m() 1", "true; jump 0", 1, api.ErrVerifyMerge}, {"m() 1", "true; branch 3; true; return", 2, api.ErrVerifyMerge}, {"m() 1", "true; branch 4; int 1; jump 5; null; pop; return", 4, api.ErrVerifyMerge}, {"m() 1", "true; branch 4; int 1; jump 5; true; pop; return", 4, api.ErrVerifyMerge},
		// Next is asked before Do.
		{"m() 1", "add", 0, api.ErrVerifyFall}, {"m() 1", "nop", 0, api.ErrVerifyFall}, {"m() 1", "branch 0", 0, api.ErrVerifyJump}, {"m() 1", "branch 9; return", 0, api.ErrVerifyJump},
	} {
		rejects(t, "A", method(t, x.sign, x.code), x.at, x.e)
	}
	// The class is that of the object.
	for _, s := range []string{"A", "C", "Object", "I"} {
		rejects(t, s, method(t, "m() 1", "load 0; get B.y; pop; return"), 1, api.ErrVerifyKind)
	}
	// An abstract method is as any other one, if it has instructions.
	m := method(t, "m() 1", "pop; return")
	m.Abstract = true
	rejects(t, "A", m, 0, api.ErrVerifyStack)
}

// P8.1: every operator as the last instruction.
func TestLastInstructions(t *testing.T) {
	for _, op := range append(code.Ops(), "", "nop") {
		m := api.Method{Locals: 1, Code: []api.Instr{{Op: "jump", N: 1}, {Op: op, N: 2}}}
		switch op {
		case "return":
			accepts(t, "A", m, "|A; |A")
		case "throw":
			rejects(t, "A", m, 1, api.ErrVerifyStack)
		case "jump", "branch":
			rejects(t, "A", m, 1, api.ErrVerifyJump)
		default:
			rejects(t, "A", m, 1, api.ErrVerifyFall)
		}
	}
}

// P8.1: the instruction with the least index is processed first, so that its error is the one that is returned.
func TestOrderOfInstructions(t *testing.T) {
	for _, x := range []struct {
		sign, code string
		at         int
		e          api.Errno
	}{
		{"m() 1", "true; branch 4; pop; return; add; return", 2, api.ErrVerifyStack},
		// The target of the branch waits longer than what follows.
		{"m() 1", "true; branch 5; true; pop; pop; add; return", 4, api.ErrVerifyStack},
		{"m() 1", "true; branch 6; jump 4; return; not; return; new Z; return", 4, api.ErrVerifyStack},
		// What was changed before is the next one.
		{"m() 1", "jump 3; pop; return; true; branch 1; add; return", 1, api.ErrVerifyStack},
		{"m() 1", "jump 4; pop; return; pop; true; branch 1; true; branch 3; return", 1, api.ErrVerifyStack},
		// An instruction that was right is processed again, before what is behind it.
		{"m() 2", "new B; store 1; load 1; get B.y; pop; new A; store 1; true; branch 2; add; return", 3, api.ErrVerifyKind},
		{"m() 2", "int 1; store 1; load 1; pop; true; branch 8; true; return; null; store 1; jump 2", 2, api.ErrVerifyLocal},
		{"m() 2", "int 1; store 1; true; branch 5; return; load 1; pop; true; branch 11; nop; return; true; store 1; jump 2", 9, api.ErrVerifyName},
		{"m() 2", "int 1; store 1; true; branch 9; load 1; pop; nop; return; return; true; store 1; jump 2", 6, api.ErrVerifyName},
		{"m() 2", "int 1; store 1; true; branch 9; load 1; pop; jump 8; return; return; true; store 1; jump 2", 4, api.ErrVerifyLocal},
	} {
		rejects(t, "A", method(t, x.sign, x.code), x.at, x.e)
	}
}
