package step_test

import (
	"fmt"
	"math/rand"
	"slices"
	"strings"
	"testing"

	"squinch/api"
	"squinch/code"
	"squinch/hier"
	"squinch/step"
)

// rows are the operands and results of the operators for which chapter 7 lists kinds. "*" stands for any kind, "ref" for a reference kind, "[]" for an array and "elem" for its element kind.
var rows = func() map[string]string {
	l := map[string]string{
		"int": ": int", "true": ": bool", "false": ": bool", "word": ": text", "null": ": null",
		"store": "* :", "pop": "* :", "neg": "int : int", "less": "int int : bool", "same": "int int : bool", "not": "bool : bool", "both": "bool bool : bool", "join": "text text : text",
		"jump": ":", "branch": "bool :", "out": "int :", "at": "[] int : elem", "set": "[] int elem :", "size": "[] : int", "equal": "ref ref : bool", "throw": "Fault :",
	}
	for _, op := range strings.Fields("add sub mul div rem and or xor shl shr") {
		l[op] = "int int : int"
	}
	return l
}()

// row returns the operands and results of an instruction in this place, or an error of its names or its local.
func row(h *hier.Table, m api.Method, i api.Instr, s api.Shape) (string, api.Errno) {
	class, member, _ := strings.Cut(i.S, ".")
	c, exists := h.Get(class)
	existing := h.Kind(i.S) && i.S != "null"
	switch i.Op {
	case "load", "store":
		if i.N < 0 || i.N >= int64(len(s.Locals)) || i.Op == "load" && s.Locals[i.N] == "" {
			return "", api.ErrVerifyLocal
		}
		if i.Op == "load" {
			return ": " + s.Locals[i.N], 0
		}
	case "dup", "swap":
		n := len(s.Stack)
		if i.Op == "dup" && n > 0 {
			return "* : " + s.Stack[n-1] + " " + s.Stack[n-1], 0
		} else if i.Op == "swap" && n > 1 {
			return "* * : " + s.Stack[n-1] + " " + s.Stack[n-2], 0
		}
		return "", api.ErrVerifyStack
	case "new":
		if !exists || c.Abstract || class != i.S {
			return "", api.ErrVerifyName
		}
		return ": " + i.S, 0
	case "get", "put":
		for _, f := range h.Fields(class) {
			if f.Name == member {
				return map[string]string{"get": class + " : " + f.Kind, "put": class + " " + f.Kind + " :"}[i.Op], 0
			}
		}
		return "", api.ErrVerifyName
	case "call":
		_, called, ok := h.Method(class, member)
		if !ok {
			return "", api.ErrVerifyName
		}
		return class + " " + strings.Join(called.Params, " ") + " : " + called.Result, 0
	case "array":
		if !existing || strings.HasSuffix(i.S, "[][][]") {
			return "", api.ErrVerifyName
		}
		return "int : " + i.S + "[]", 0
	case "is", "cast":
		if !existing {
			return "", api.ErrVerifyName
		}
		return map[string]string{"is": "ref : bool", "cast": "ref : " + i.S}[i.Op], 0
	case "return":
		return m.Result + " :", 0
	}
	r, ok := rows[i.Op]
	if !ok {
		return "", api.ErrVerifyName
	}
	return r, 0
}

// wanted returns what Do should return by the rows. (Kinds that contain spaces are left out of it.)
func wanted(h *hier.Table, m api.Method, i api.Instr, s api.Shape) (api.Shape, api.Errno) {
	r, e := row(h, m, i, s)
	if e != api.OK {
		return api.Shape{}, e
	}
	left, right, _ := strings.Cut(r, ":")
	takes, gives := strings.Fields(left), strings.Fields(right)
	n := len(s.Stack) - len(takes)
	if n < 0 {
		return api.Shape{}, api.ErrVerifyStack
	}
	taken, elem := s.Stack[n:], ""
	for k, need := range takes {
		ok := h.Sub(taken[k], need)
		switch need {
		case "*":
			ok = true
		case "ref":
			ok = h.Sub("null", taken[k])
		case "[]":
			ok = strings.HasSuffix(taken[k], "[]")
			elem = strings.TrimSuffix(taken[k], "[]")
		case "elem":
			ok = h.Sub(taken[k], elem)
		}
		if !ok {
			return api.Shape{}, api.ErrVerifyKind
		}
	}
	after := api.Shape{Seen: true, Stack: slices.Clone(s.Stack[:n]), Locals: slices.Clone(s.Locals)}
	for _, k := range gives {
		after.Stack = append(after.Stack, strings.Replace(k, "elem", elem, 1))
	}
	if i.Op == "store" {
		after.Locals[i.N] = taken[0]
	}
	if len(after.Stack) > 24 {
		return api.Shape{}, api.ErrVerifyStack
	}
	return after, 0
}

// instrs returns instructions of all operators, right ones and others.
func instrs() []api.Instr {
	var l []api.Instr
	for _, op := range append(code.Ops(), "nop") {
		switch op {
		case "load", "store":
			for n := range int64(6) {
				l = append(l, api.Instr{Op: op, N: n - 1})
			}
		case "new", "is", "cast", "array":
			for _, s := range strings.Fields("A B C E I J F Object Fault Z int null A[] int[][] I[][][] Z[] A[][][][]") {
				l = append(l, api.Instr{Op: op, S: s})
			}
		case "get", "put", "call":
			for _, s := range strings.Fields("A.x A.next A.list B.y B.word C.z F.what Fault.why I.x A.f B.g E.h C.wait I.see J.see J.tell E.tell A.q Z.x A") {
				l = append(l, api.Instr{Op: op, S: s})
			}
		default:
			l = append(l, api.Instr{Op: op, N: 3, S: "q"})
		}
	}
	return l
}

func stackKinds() []string {
	return strings.Fields("int bool text null A B E I Object Fault F A[] B[] int[] A[][][] Z Z[]")
}

// P7.2: all instructions on all short stacks, against the second definition.
func TestDoAgainstSecondDefinition(t *testing.T) {
	h := zoo(t)
	seen := map[api.Errno]int{}
	var stacks [][]string
	for last := [][]string{nil}; len(stacks) < 4000; {
		stacks = append(stacks, last...)
		var longer [][]string
		for _, s := range last {
			for _, k := range stackKinds() {
				longer = append(longer, append(slices.Clone(s), k))
			}
		}
		last = longer
	}
	for _, i := range instrs() {
		for n, stack := range stacks {
			m := api.Method{Result: []string{"", "int", "A", "Z", "A[]"}[n%5]}
			s := api.Shape{Seen: true, Stack: stack, Locals: []string{"A", "", "int", "Z"}}
			want, e := wanted(h, m, i, s)
			checkDo(t, h, m, i, s, want, e)
			seen[e]++
		}
		if t.Failed() {
			return
		}
	}
	for _, e := range []api.Errno{api.OK, api.ErrVerifyName, api.ErrVerifyLocal, api.ErrVerifyStack, api.ErrVerifyKind} {
		if seen[e] < 1000 {
			t.Errorf("only %d steps with error %d", seen[e], e)
		}
	}
}

// P7.2: random stacks about the limit, whose tops are often right, against the second definition.
func TestDoOnHighStacksAgainstSecondDefinition(t *testing.T) {
	h := zoo(t)
	dice := rand.New(rand.NewSource(7))
	l, kinds := instrs(), stackKinds()
	seen := map[string]int{}
	for range 60000 {
		i := l[dice.Intn(len(l))]
		m := api.Method{Result: []string{"", "int", "A", "Z"}[dice.Intn(4)]}
		s := api.Shape{Seen: dice.Intn(2) == 0, Locals: []string{"A", "", "int", "Z"}}
		for range 20 + dice.Intn(8) {
			s.Stack = append(s.Stack, kinds[dice.Intn(len(kinds))])
		}
		r, _ := row(h, m, i, s)
		needs := strings.Fields(strings.Split(r, ":")[0])
		for k, need := range needs {
			need = strings.NewReplacer("*", "Z", "ref", "null", "[]", "A[]", "elem", "A").Replace(need)
			if h.Kind(need) && dice.Intn(10) > 0 {
				s.Stack[len(s.Stack)-len(needs)+k] = need
			}
		}
		want, e := wanted(h, m, i, s)
		checkDo(t, h, m, i, s, want, e)
		seen[fmt.Sprint(e, len(s.Stack) > 24)]++
		if t.Failed() {
			return
		}
	}
	for _, s := range []string{"0 true", "0 false", "72 true", "72 false", "73 true", "73 false", "76 true", "74 true"} {
		if seen[s] < 100 {
			t.Errorf("only %d steps of %s", seen[s], s)
		}
	}
}

// P7.4: for each pair of shapes whose kinds are subkinds. The one exception follows from P7.2 and the given tests: null is a subkind of an array kind, and at, set and size take no null for an array.
func TestMonotony(t *testing.T) {
	h := zoo(t)
	dice := rand.New(rand.NewSource(3))
	kinds := slices.DeleteFunc(stackKinds(), func(s string) bool { return !h.Kind(s) })
	lower := map[string][]string{}
	for _, a := range kinds {
		for _, b := range kinds {
			if h.Sub(b, a) {
				lower[a] = append(lower[a], b)
			}
		}
	}
	below := func(l []string) []string {
		var m []string
		for _, s := range l {
			m = append(m, lower[s][dice.Intn(len(lower[s]))])
		}
		return m
	}
	moved, nulls := 0, 0
	l := instrs()
	for range 300000 {
		i, m := l[dice.Intn(len(l))], api.Method{Result: kinds[dice.Intn(len(kinds))]}
		high := api.Shape{Seen: true, Locals: []string{"A", "Object", "int", "Fault"}}
		for range dice.Intn(5) {
			high.Stack = append(high.Stack, kinds[dice.Intn(len(kinds))])
		}
		low := api.Shape{Seen: true, Stack: below(high.Stack), Locals: below(high.Locals)}
		after, e := step.Do(h, m, i, high)
		if e != api.OK {
			continue
		}
		lowAfter, lowE := step.Do(h, m, i, low)
		if n := map[string]int{"size": 1, "at": 2, "set": 3}[i.Op]; n > 0 && low.Stack[len(low.Stack)-n] == "null" {
			nulls++
			if lowE != api.ErrVerifyKind {
				t.Errorf("%v takes null for an array: %v", i, low)
			}
			continue
		}
		if lowE != api.OK || !slices.EqualFunc(lowAfter.Stack, after.Stack, h.Sub) || !slices.EqualFunc(lowAfter.Locals, after.Locals, h.Sub) {
			t.Fatalf("%v: %v to %v, but %v to %v, %d", i, high, after, low, lowAfter, lowE)
		}
		if !equal(low, high) {
			moved++
		}
	}
	if moved < 10000 || nulls < 50 {
		t.Errorf("only %d steps on other shapes, %d on null", moved, nulls)
	}
}
