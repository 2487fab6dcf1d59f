package step_test

import (
	"math"
	"strings"
	"testing"

	"squinch/api"
	"squinch/code"
	"squinch/step"
)

// P7.2: the effects of all operators that have no operand or one that does not matter.
func TestPlainOperators(t *testing.T) {
	h := zoo(t)
	for _, x := range []struct{ ops, stack, want string }{
		{"int", "", "int"}, {"int", "A bool", "A bool int"}, {"true false", "", "bool"}, {"true false", "int", "int bool"},
		{"word", "", "text"}, {"null", "", "null"}, {"null", "A", "A null"},
		{"pop", "A", ""}, {"pop", "int A", "int"}, {"pop", "Z", ""}, {"pop", "null int", "null"},
		{"dup", "A", "A A"}, {"dup", "int text", "int text text"}, {"dup", "Z[]", "Z[] Z[]"}, {"dup", "null", "null null"},
		{"swap", "int A", "A int"}, {"swap", "int A bool", "int bool A"}, {"swap", "Z null", "null Z"},
		{"add sub mul div rem and or xor shl shr", "int int", "int"}, {"add sub mul div rem and or xor shl shr", "bool int int", "bool int"},
		{"neg", "int", "int"}, {"neg", "A int", "A int"}, {"less same", "int int", "bool"}, {"less same", "A int int", "A bool"},
		{"not", "bool", "bool"}, {"not", "int bool", "int bool"}, {"both", "bool bool", "bool"}, {"join", "text text", "text"}, {"join", "int text text", "int text"},
		{"jump", "", ""}, {"jump", "A int", "A int"}, {"branch", "bool", ""}, {"branch", "int bool", "int"}, {"out", "int", ""}, {"out", "A int", "A"},
		{"at", "A[] int", "A"}, {"at", "int A[][][] int", "int A[][]"}, {"at", "int[] int", "int"}, {"at", "Z[] int", "Z"}, {"at", "Z[][] int", "Z[]"},
		{"set", "A[] int A", ""}, {"set", "A[] int E", ""}, {"set", "A[] int null", ""}, {"set", "int I[] int B", "int"}, {"set", "int[] int int", ""}, {"set", "A[][] int A[]", ""}, {"set", "Object[] int A[]", ""},
		{"size", "A[]", "int"}, {"size", "int[][][]", "int"}, {"size", "bool Z[][]", "bool int"},
		{"equal", "A A", "bool"}, {"equal", "A null", "bool"}, {"equal", "null null", "bool"}, {"equal", "int I A[]", "int bool"}, {"equal", "int[] ZeroFault", "bool"},
		{"throw", "Fault", ""}, {"throw", "ZeroFault", ""}, {"throw", "int F", "int"}, {"throw", "null", ""},
		{"return", "", ""}, {"return", "int A", "int A"},
	} {
		for _, op := range strings.Fields(x.ops) {
			checkDo(t, h, api.Method{}, api.Instr{Op: op}, shape(x.stack, "A -"), shape(x.want, "A -"), api.OK)
		}
	}
}

// P7.2
func TestOperatorsWithTexts(t *testing.T) {
	h := zoo(t)
	for _, x := range []struct{ instr, stack, want string }{
		{"new A", "", "A"}, {"new B", "int", "int B"}, {"new Object", "", "Object"}, {"new Fault", "", "Fault"}, {"new ZeroFault", "", "ZeroFault"}, {"new E", "", "E"},
		{"get A.x", "A", "int"}, {"get A.x", "B", "int"}, {"get B.x", "int B", "int int"}, {"get E.list", "E", "A[][][]"}, {"get A.next", "null", "A"}, {"get F.what", "F", "text"}, {"get Fault.what", "ZeroFault", "text"}, {"get C.z", "E", "C"}, {"get A.any", "A", "Object"},
		{"put A.x", "A int", ""}, {"put B.x", "text B int", "text"}, {"put A.next", "E B", ""}, {"put A.next", "null null", ""}, {"put A.any", "A A[]", ""}, {"put E.list", "E A[][][]", ""}, {"put A.word", "A text", ""}, {"put A.ok", "A bool", ""}, {"put F.what", "F text", ""},
		{"call A.f", "A int", "text"}, {"call B.f", "bool B int", "bool text"}, {"call A.g", "A A B bool", ""}, {"call A.g", "int E null I bool", "int"}, {"call A.h", "null", "A[]"},
		{"call I.see", "B text B", "I"}, {"call J.see", "J text null", "I"}, {"call J.tell", "B", ""}, {"call C.wait", "C int", "int"}, {"call E.see", "E text B", "I"}, {"call C.wait", "int E int", "int int"},
		{"array A", "int", "A[]"}, {"array int", "A int", "A int[]"}, {"array A[][]", "int", "A[][][]"}, {"array I", "int", "I[]"}, {"array text[]", "int", "text[][]"},
		{"is A", "B", "bool"}, {"is B", "null", "bool"}, {"is A[]", "Object", "bool"}, {"is I", "A[]", "bool"}, {"is C", "int int[]", "int bool"},
		{"cast B", "A", "B"}, {"cast A", "null", "A"}, {"cast int[][]", "I", "int[][]"}, {"cast I", "int A", "int I"}, {"cast C", "A[]", "C"},
		{"word any", "", "text"}, {"word A.x", "int", "int text"},
	} {
		checkDo(t, h, api.Method{}, instr(x.instr), shape(x.stack, "A -"), shape(x.want, "A -"), api.OK)
	}
}

// P7.2: is and cast with kinds that no valid instruction names: they exist.
func TestIsAndCastOfPlainKinds(t *testing.T) {
	h := zoo(t)
	for _, s := range []string{"int", "bool", "text"} {
		checkDo(t, h, api.Method{}, api.Instr{Op: "is", S: s}, shape("A", ""), shape("bool", ""), api.OK)
		checkDo(t, h, api.Method{}, api.Instr{Op: "cast", S: s}, shape("A", ""), shape(s, ""), api.OK)
	}
}

// P7.2: classes, members and kinds that do not exist, before anything else is looked at.
func TestNames(t *testing.T) {
	h := zoo(t)
	names := []string{"", "Z", "I", "J", "C", "int", "null", "A[]", "A.x", "a", "A ", "\xff", strings.Repeat("A", 1<<16)}
	for _, s := range names {
		checkName(t, "new", s)
	}
	for _, s := range []string{"", ".", "A", "x", "A.", ".x", "Z.x", "Z.f", "A.q", "A.X", "A.x.x", "A.x ", " A.x", "A..x", "A x", "A[].x", "int.x", "null.x", "I.x", "Object.x", "Object.what", "A.y", "C.y", "Fault.why", "\xff.x", strings.Repeat("A", 1<<16) + ".x"} {
		checkName(t, "get", s)
		checkName(t, "put", s)
		checkName(t, "call", s)
	}
	for _, s := range []string{"A.f", "A.h", "I.see"} {
		checkName(t, "get", s)
		checkName(t, "put", s)
	}
	for _, s := range []string{"A.x", "A.see", "A.tell", "A.wait", "I.tell", "Object.f", "Fault.f", "E.tell", "F.what"} {
		checkName(t, "call", s)
	}
	for _, s := range []string{"", "Z", "null", "Z[]", "null[]", "A[][][][]", "int[][][][]", "A.x", "A[", "[]", "a", "Null", "A ", "\xff", strings.Repeat("A", 1<<16), "A" + strings.Repeat("[]", 1<<16)} {
		checkName(t, "is", s)
		checkName(t, "cast", s)
		checkName(t, "array", s)
	}
	checkName(t, "array", "A[][][]")
	checkName(t, "array", "int[][][]")
	for _, s := range []string{"A[][][]", "int[][][]"} {
		checkDo(t, h, api.Method{}, api.Instr{Op: "is", S: s}, shape("A", ""), shape("bool", ""), api.OK)
		checkDo(t, h, api.Method{}, api.Instr{Op: "cast", S: s}, shape("A", ""), shape(s, ""), api.OK)
	}
}

// checkName checks that an instruction has ErrVerifyName on stacks that are too short, right, wrong and too long.
func checkName(t *testing.T, op, s string) {
	t.Helper()
	h := zoo(t)
	for _, stack := range []string{"", "A", "int", "A int", "bool bool bool", "A text B", strings.Repeat("Z ", 30)} {
		checkDo(t, h, api.Method{}, api.Instr{Op: op, S: s}, shape(stack, "A -"), api.Shape{}, api.ErrVerifyName)
	}
}

// The given tests ask for ErrVerifyName where an operator does not exist.
func TestOperatorsThatDoNotExist(t *testing.T) {
	for _, op := range []string{"", "nop", "Add", "ADD", "add ", " add", "jumps", "const", "pushNumber", "\xff", strings.Repeat("add", 1<<16)} {
		checkName(t, op, "")
		checkName(t, op, "A.x")
		checkName(t, op, "A")
	}
}

// P7.2
func TestLoadAndStore(t *testing.T) {
	h := zoo(t)
	for _, x := range []struct{ instr, stack, locals, want, wantLocals string }{
		{"load 0", "", "A", "A", "A"}, {"load 1", "int", "A text[] -", "int text[]", "A text[] -"}, {"load 2", "", "- - null", "null", "- - null"}, {"load 0", "", "Z[]", "Z[]", "Z[]"},
		{"store 0", "int", "A", "", "int"}, {"store 1", "bool null", "A - int", "bool", "A null int"}, {"store 2", "A", "- - -", "", "- - A"}, {"store 0", "Z", "A A", "", "Z A"},
	} {
		checkDo(t, h, api.Method{}, instr(x.instr), shape(x.stack, x.locals), shape(x.want, x.wantLocals), api.OK)
	}
	many := strings.Repeat("- ", 1<<16)
	checkDo(t, h, api.Method{}, instr("store 65535"), shape("A", many), shape("", many[2:]+"A"), api.OK)
	checkDo(t, h, api.Method{}, instr("load 65535"), shape("", many[2:]+"A"), shape("A", many[2:]+"A"), api.OK)
	// What is on a stack is stored and loaded as it is, a kind or not.
	s := api.Shape{Seen: true, Stack: []string{""}, Locals: []string{"A"}}
	checkDo(t, h, api.Method{}, instr("store 0"), s, api.Shape{Seen: true, Locals: []string{""}}, api.OK)
}

// P7.2: locals that do not exist or, for load, are not set, before the stack is looked at.
func TestLocals(t *testing.T) {
	h := zoo(t)
	for _, n := range []int64{-1, 3, 4, -3, 1 << 32, 1<<32 + 1, -1 << 32, math.MaxInt64, math.MinInt64, math.MaxInt32, 1 << 62} {
		for _, stack := range []string{"", "A", "int A", strings.Repeat("A ", 24), strings.Repeat("A ", 30)} {
			for _, m := range []api.Method{{}, {Locals: 100}} {
				checkDo(t, h, m, api.Instr{Op: "load", N: n}, shape(stack, "A - int"), api.Shape{}, api.ErrVerifyLocal)
				checkDo(t, h, m, api.Instr{Op: "store", N: n}, shape(stack, "A - int"), api.Shape{}, api.ErrVerifyLocal)
			}
		}
	}
	for _, op := range []string{"load", "store"} {
		checkDo(t, h, api.Method{Locals: 3}, api.Instr{Op: op}, shape("A", ""), api.Shape{}, api.ErrVerifyLocal)
	}
	for _, stack := range []string{"", "A", strings.Repeat("A ", 24), strings.Repeat("A ", 30)} {
		checkDo(t, h, api.Method{}, instr("load 1"), shape(stack, "A - int"), api.Shape{}, api.ErrVerifyLocal)
	}
}

// takers are stacks that are right for an instruction, with nothing below what it takes.
var takers = []struct{ instr, stack string }{
	{"store 1", "A"}, {"pop", "A"}, {"dup", "A"}, {"swap", "A A"}, {"neg", "int"}, {"not", "bool"}, {"both", "bool bool"}, {"join", "text text"},
	{"add", "int int"}, {"sub", "int int"}, {"mul", "int int"}, {"div", "int int"}, {"rem", "int int"}, {"and", "int int"}, {"or", "int int"}, {"xor", "int int"}, {"shl", "int int"}, {"shr", "int int"},
	{"less", "int int"}, {"same", "int int"}, {"branch 0", "bool"}, {"out", "int"}, {"get A.x", "A"}, {"put A.x", "A int"}, {"call A.f", "A int"}, {"call A.g", "A A I bool"}, {"call A.h", "A"}, {"call I.see", "I text B"},
	{"array A", "int"}, {"at", "A[] int"}, {"set", "A[] int A"}, {"size", "A[]"}, {"is A", "A"}, {"cast A", "A"}, {"equal", "A A"}, {"throw", "Fault"}, {"return", "A"},
}

// P7.2: one value less than an instruction takes is too few, before the kinds of the others are looked at.
func TestTooFewValues(t *testing.T) {
	h := zoo(t)
	m := api.Method{Result: "A"}
	for _, x := range takers {
		l := strings.Fields(x.stack)
		for n := range len(l) {
			checkDo(t, h, m, instr(x.instr), shape(strings.Join(l[:n], " "), "A -"), api.Shape{}, api.ErrVerifyStack)
			checkDo(t, h, m, instr(x.instr), shape(strings.Repeat("Z ", n), "A -"), api.Shape{}, api.ErrVerifyStack)
		}
		if _, e := step.Do(h, m, instr(x.instr), shape(x.stack, "A -")); e != api.OK {
			t.Errorf("%s on %s: %d", x.instr, x.stack, e)
		}
	}
}

// P7.2: each value that an instruction takes by kind, replaced by each of another kind.
func TestWrongKinds(t *testing.T) {
	h := zoo(t)
	m := api.Method{Result: "A"}
	others := map[string]string{
		"int": "bool text null A int[] Z Object", "bool": "int text null A bool[] Z", "text": "int bool null A text[] Z",
		"A": "int bool text Object I Fault A[] Z Z[]", "B": "A C E I J Object B[] int", "I": "A C F Object I[] Object[] text",
		"A[]": "A null int Object B Z Fault", "Fault": "Object A Fault[] int Z text",
	}
	for _, x := range takers {
		l := strings.Fields(x.stack)
		op := instr(x.instr).Op
		for i, right := range l {
			for _, wrong := range strings.Fields(others[right]) {
				if strings.Contains(" store pop dup swap ", " "+op+" ") || strings.Contains(" is cast equal ", " "+op+" ") && strings.Contains(" Object I Fault A[] ", " "+wrong+" ") {
					continue
				}
				kinds := append([]string{}, l...)
				kinds[i] = wrong
				stack := strings.Join(kinds, " ")
				checkDo(t, h, m, instr(x.instr), shape(stack, "A -"), api.Shape{}, api.ErrVerifyKind)
				checkDo(t, h, m, instr(x.instr), shape("int "+stack, "A -"), api.Shape{}, api.ErrVerifyKind)
				checkDo(t, h, m, instr(x.instr), shape(strings.Repeat("A ", 40)+stack, "A -"), api.Shape{}, api.ErrVerifyKind)
			}
		}
	}
}

// P7.2: arrays are no subkinds of arrays of other kinds, and null is no array.
func TestArrays(t *testing.T) {
	h := zoo(t)
	for _, x := range []struct{ instr, stack string }{
		{"size", "null"}, {"at", "null int"}, {"set", "null int null"}, {"set", "null int A"}, {"set", "null int int"},
		{"set", "B[] int A"}, {"set", "A[][] int B[]"}, {"set", "A[] int Object"}, {"set", "int[] int null"}, {"set", "int[] int bool"}, {"set", "I[] int A"},
		{"set", "Z[] int Z"}, {"set", "Z[] int null"}, {"set", "A[] int Z"}, {"set", "A[] bool A"}, {"at", "A[] bool"}, {"at", "int A[]"}, {"at", "Object int"}, {"size", "A[][][][]"}, {"size", "null[]"}, {"size", "[]"},
		{"put E.list", "E B[][][]"}, {"put E.list", "E A[][]"}, {"call I.see", "B[] text B"},
		{"is A", "Z[]"}, {"cast A", "Z[]"}, {"equal", "Z[] A"}, {"equal", "A null[]"}, {"equal", "A Z"}, {"throw", "Fault[]"},
	} {
		checkDo(t, h, api.Method{}, instr(x.instr), shape(x.stack, ""), api.Shape{}, api.ErrVerifyKind)
	}
}

// P7.2: what return takes is given by the method's result.
func TestReturn(t *testing.T) {
	h := zoo(t)
	for _, x := range []struct {
		result, stack, want string
		e                   api.Errno
	}{
		{"", "", "", 0}, {"", "Z int", "Z int", 0},
		{"int", "int", "", 0}, {"int", "A int", "A", 0}, {"int", "", "", api.ErrVerifyStack}, {"int", "bool", "", api.ErrVerifyKind}, {"int", "int bool", "", api.ErrVerifyKind},
		{"A", "E", "", 0}, {"A", "null", "", 0}, {"A", "Object", "", api.ErrVerifyKind}, {"I", "B", "", 0}, {"I", "A", "", api.ErrVerifyKind}, {"A[]", "A[]", "", 0}, {"A[]", "B[]", "", api.ErrVerifyKind}, {"Object", "int[]", "", 0},
		{"Z", "Z", "", api.ErrVerifyKind}, {"Z", "null", "", api.ErrVerifyKind}, {"Z", "", "", api.ErrVerifyStack}, {"Z[]", "Z[]", "", api.ErrVerifyKind}, {"\xff", "\xff", "", api.ErrVerifyKind}, {"null", "null", "", 0}, {"null", "A", "", api.ErrVerifyKind},
	} {
		want := shape(x.want, "-")
		if x.e != api.OK {
			want = api.Shape{}
		}
		checkDo(t, h, api.Method{Result: x.result}, api.Instr{Op: "return"}, shape(x.stack, "-"), want, x.e)
	}
}

// P7.2: at most MaxStack values after an instruction, however many there were before.
func TestTooManyValues(t *testing.T) {
	h := zoo(t)
	const most = api.MaxStack
	for _, x := range []struct {
		instr, top string
		grows      int
	}{
		{"int 5", "", 1}, {"true", "", 1}, {"false", "", 1}, {"word", "", 1}, {"null", "", 1}, {"load 0", "", 1}, {"new A", "", 1}, {"dup", "A", 1},
		{"jump 0", "", 0}, {"swap", "A A", 0}, {"neg", "int", 0}, {"not", "bool", 0}, {"get A.x", "A", 0}, {"array A", "int", 0}, {"size", "A[]", 0}, {"is A", "A", 0}, {"cast A", "A", 0}, {"call A.h", "A", 0},
		{"pop", "A", -1}, {"store 0", "A", -1}, {"add", "int int", -1}, {"less", "int int", -1}, {"both", "bool bool", -1}, {"join", "text text", -1}, {"branch 0", "bool", -1}, {"out", "int", -1}, {"call A.f", "A int", -1}, {"at", "A[] int", -1}, {"equal", "A A", -1}, {"throw", "Fault", -1}, {"return", "A", -1},
		{"put A.x", "A int", -2}, {"set", "A[] int A", -3}, {"call I.see", "I text B", -2}, {"call A.g", "A A B bool", -4}, {"call A.all", "A" + strings.Repeat(" int", 24), -25},
	} {
		top := strings.Fields(x.top)
		for n := most - 2; n < most+30; n++ {
			if n < len(top) {
				continue
			}
			s := shape(strings.Repeat("A ", n-len(top))+x.top, "A")
			got, e := step.Do(h, api.Method{Result: "A"}, instr(x.instr), s)
			if after := n + x.grows; after > most && e != api.ErrVerifyStack || after <= most && (e != api.OK || len(got.Stack) != after) {
				t.Errorf("%s on %d values: %d, %d", x.instr, n, len(got.Stack), e)
			}
		}
	}
	checkDo(t, h, api.Method{}, api.Instr{Op: "int"}, shape(strings.Repeat("A ", 1<<16), ""), api.Shape{}, api.ErrVerifyStack)
	// Of two errors that are both possible, that of the kinds is first.
	checkDo(t, h, api.Method{}, api.Instr{Op: "add"}, shape(strings.Repeat("A ", 30), ""), api.Shape{}, api.ErrVerifyKind)
}

// P7.2: the shape that is given need not be Seen; the one that is returned is.
func TestDoOfShapesThatAreNotSeen(t *testing.T) {
	h := zoo(t)
	checkDo(t, h, api.Method{}, api.Instr{Op: "add"}, unseen(shape("A int int", "A -")), shape("A int", "A -"), api.OK)
	checkDo(t, h, api.Method{}, api.Instr{Op: "return"}, api.Shape{}, api.Shape{Seen: true}, api.OK)
	checkDo(t, h, api.Method{}, api.Instr{Op: "add"}, api.Shape{}, api.Shape{}, api.ErrVerifyStack)
}

// P7.2: operands that an operator does not have make no difference.
func TestOperandsThatDoNotMatter(t *testing.T) {
	h := zoo(t)
	texts := " word new get put call array is cast "
	for _, op := range code.Ops() {
		for _, x := range takers {
			plain := instr(x.instr)
			if plain.Op != op {
				continue
			}
			want, wantE := step.Do(h, api.Method{Result: "A"}, plain, shape(x.stack, "A -"))
			more := plain
			if op != "load" && op != "store" {
				more.N = -77
			}
			if !strings.Contains(texts, " "+op+" ") {
				more.S = "Z.q"
			}
			checkDo(t, h, api.Method{Name: "f", Params: []string{"Z"}, Result: "A", Abstract: true, Locals: -5}, more, shape(x.stack, "A -"), want, wantE)
		}
	}
}
