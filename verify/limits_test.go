package verify_test

import (
	"math"
	"slices"
	"strings"
	"testing"

	"squinch/api"
	"squinch/code"
	"squinch/verify"
)

// P1: whatever a method is made of, Method returns what the second definition does.
func TestNonsense(t *testing.T) {
	h, d := zoo(t), newDice(21)
	ops := append(code.Ops(), "", "nop", "Jump", "\xff")
	texts := append(strange(), strings.Fields("int bool text A B I T Object Fault Worse A[] A.x B.next A.up I.see D.up Fault.what A.up.up .")...)
	number := func() int {
		return []int{0, 1, 2, 3, 4, 5, -1, -2, 7, 1 << 16, 1 << 32, math.MaxInt32, math.MinInt32, math.MaxInt, math.MinInt}[d.Intn(15)]
	}
	seldom := func(usual string) string {
		if d.Intn(12) > 0 {
			return usual
		}
		return d.pick(texts...)
	}
	seen := map[api.Errno]int{}
	for range 20000 {
		m := api.Method{Name: d.pick(texts...), Result: seldom(""), Locals: 4 + d.Intn(3) - d.Intn(3), Abstract: d.Intn(2) == 0}
		for range d.Intn(3) {
			m.Params = append(m.Params, seldom(d.pick("int", "A")))
		}
		for range d.Intn(9) {
			m.Code = append(m.Code, api.Instr{Op: d.pick(ops...), N: int64(number()), S: d.pick(texts...)})
		}
		for range d.Intn(3) {
			m.Catches = append(m.Catches, caught(number(), number(), number(), seldom(d.pick("Fault", "Worse"))))
		}
		class := seldom(d.pick("A", "I"))
		want, wantAt, wantE := wanted(h, class, m)
		unchanged(t, m, func() {
			got, at, e := verify.Method(h, class, m)
			if !sameShapes(got, want) || at != wantAt || e != wantE || e != api.OK && got != nil {
				t.Errorf("%.300v of %.50q: %d at %d, want %d at %d, with %.100v", m, class, e, at, wantE, wantAt, got)
			}
		})
		seen[wantE]++
	}
	if len(seen) != 8 || seen[api.OK] < 500 {
		t.Errorf("methods by error: %v", seen)
	}
}

// P8.1: which locals exist, and which are in the shapes, if far more exist than the instructions name.
func TestManyLocals(t *testing.T) {
	const many = 1 << 16
	m := method(t, "m(int) 2", "new B; store 65535; null; store 40000; load 65535; store 3; return")
	m.Locals = many
	l, at, e := verify.Method(zoo(t), "A", m)
	if len(l) != 7 || at != 0 || e != api.OK {
		t.Fatalf("%d shapes, %d, %d", len(l), at, e)
	}
	last := slices.Repeat([]string{""}, many)
	last[0], last[1], last[3], last[40000], last[65535] = "A", "int", "B", "null", "B"
	if !slices.Equal(l[6].Locals, last) || len(l[0].Locals) != many {
		t.Error("wrong locals")
	}
	m.Locals--
	rejects(t, "A", m, 1, api.ErrVerifyLocal)
	m.Code = read("true; store 9; load 8; return")
	rejects(t, "A", m, 2, api.ErrVerifyLocal)
}

// P1: with an error there are no shapes, so that it does not matter how many locals they would have had.
func TestEndlessLocals(t *testing.T) {
	for _, n := range []int{1 << 31, 1 << 40, math.MaxInt - 1, math.MaxInt} {
		for _, x := range []struct {
			code string
			at   int
			e    api.Errno
		}{
			{"add; return", 0, api.ErrVerifyStack}, {"jump 7", 0, api.ErrVerifyJump}, {"load 0; pop; load 1; return", 2, api.ErrVerifyLocal}, {"load 1073741824; return", 0, api.ErrVerifyLocal}, {"load 9223372036854775806; return", 0, api.ErrVerifyLocal},
			{"true; store 1073741824; load 1073741824; neg; return", 3, api.ErrVerifyKind}, {"true; store 2147483647; load 2147483646; return", 2, api.ErrVerifyLocal}, {"true; store 2147483647; load 0; store 2147483646; load 2147483647; branch 0; load 2147483647; pop; nop; return", 8, api.ErrVerifyName},
			{"true; store -1; return", 1, api.ErrVerifyLocal}, {"true; store 9223372036854775807; return", 1, api.ErrVerifyLocal},
		} {
			m := method(t, "m() 1", x.code)
			m.Locals = n
			rejects(t, "A", m, x.at, x.e)
		}
	}
}

// P1: methods that are far longer than those of a class.
func TestLongMethods(t *testing.T) {
	const long = 1 << 16
	h := zoo(t)
	check := func(what string, l []api.Instr, most int, at int, want api.Errno) {
		t.Helper()
		shapes, got, e := verify.Method(h, "A", api.Method{Locals: 2, Code: l})
		if got != at || e != want || e == api.OK && (len(shapes) != len(l) || !shapes[most].Seen) {
			t.Errorf("%s: %d shapes, %d, %d", what, len(shapes), got, e)
		}
	}
	line := slices.Repeat(read("true; pop"), long/2)
	check("a line", line, 0, long-1, api.ErrVerifyFall)
	line[long-1] = api.Instr{Op: "jump"}
	check("a circle", line, long-1, long-1, api.ErrVerifyMerge)
	line[long-2] = api.Instr{Op: "null"}
	line[long-1] = api.Instr{Op: "throw"}
	check("a line", line, long-1, 0, api.OK)
	back := make([]api.Instr, long)
	for i := range back {
		back[i] = api.Instr{Op: "jump", N: int64(i) - 1}
	}
	back[0] = api.Instr{Op: "jump", N: long - 1}
	back[1] = api.Instr{Op: "return"}
	check("a line backwards", back, 2, 0, api.OK)
	back[1] = api.Instr{Op: "add"}
	check("a line backwards", back, 2, 1, api.ErrVerifyStack)
}

// Arguments, with their unused capacity, are left alone, and results are new memory: whatever is done to them changes nothing else.
func TestMemory(t *testing.T) {
	h := zoo(t)
	m := method(t, "m(A[],int) 5", "load 0; get A.next; store 3; true; branch 6; jump 6; jump 7; return; throw", caught(0, 3, 8, "Fault"))
	m.Params = append(m.Params, "rest")[:2]
	m.Code = append(m.Code, api.Instr{Op: "rest"})[:len(m.Code)]
	m.Catches = append(m.Catches, caught(1, 2, 3, "rest"))[:1]
	want := "|A A[] int - -; A|A A[] int - -; A|A A[] int - -; |A A[] int A -; bool|A A[] int A -; |A A[] int A -; |A A[] int A -; |A A[] int A -; Fault|A A[] int - -"
	whole := m
	whole.Params, whole.Code, whole.Catches = m.Params[:3], m.Code[:len(m.Code)+1], m.Catches[:2]
	unchanged(t, whole, func() {
		accepts(t, "A", m, want)
		l, _, _ := verify.Method(h, "A", m)
		for i := range l {
			before := show(slices.Delete(slices.Clone(l), i, i+1))
			stack, locals := l[i].Stack[:cap(l[i].Stack)], l[i].Locals[:cap(l[i].Locals)]
			for k := range stack {
				stack[k] = "changed"
			}
			if slices.Contains(locals, "changed") {
				t.Errorf("the lists of shape %d share memory", i)
			}
			for k := range locals {
				locals[k] = "changed"
			}
			if after := show(slices.Delete(slices.Clone(l), i, i+1)); after != before {
				t.Errorf("shape %d shares memory:\n%s\n%s", i, before, after)
			}
		}
		accepts(t, "A", m, want)
	})
	checkAll(t, h, "", "", 0, api.OK)
}

// The second call returns what the first one did: nothing is kept in between, nor in the table.
func TestNothingIsKept(t *testing.T) {
	h := zoo(t)
	right, wrong := method(t, "m() 2", "null; store 1; load 1; pop; return"), method(t, "m() 2", "true; branch 4; true; store 1; load 1; return")
	for range 3 {
		if l, _, e := verify.Method(h, "A", right); e != api.OK || len(l) != 5 {
			t.Errorf("%d, %d shapes", e, len(l))
		}
		if l, at, e := verify.Method(h, "A", wrong); l != nil || at != 4 || e != api.ErrVerifyLocal {
			t.Errorf("%d, %d", at, e)
		}
		checkAll(t, h, "", "", 0, api.OK)
	}
}

// Nil and empty lists are equal.
func TestNilAndEmpty(t *testing.T) {
	h := zoo(t)
	m := method(t, "m() 1", "return")
	m.Params, m.Catches = []string{}, []api.Catch{}
	accepts(t, "A", m, "|A")
	for _, a := range [][]string{nil, {}} {
		for _, b := range [][]string{nil, {}} {
			if !verify.Fits(h, api.Shape{Seen: true, Stack: a, Locals: b}, b, a) {
				t.Errorf("%#v does not fit %#v", a, b)
			}
		}
	}
}
