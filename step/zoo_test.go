package step_test

import (
	"reflect"
	"slices"
	"strings"
	"testing"

	"squinch/api"
	"squinch/hier"
	"squinch/step"
)

// method returns a method by its name and its signature: "go(int,A)text".
func method(s string, abstract bool) api.Method {
	name, rest, _ := strings.Cut(s, "(")
	params, result, _ := strings.Cut(rest, ")")
	m := api.Method{Name: name, Result: result, Abstract: abstract}
	if params != "" {
		m.Params = strings.Split(params, ",")
	}
	if !abstract {
		m.Locals, m.Code = len(m.Params)+1, []api.Instr{{Op: "return"}}
	}
	return m
}

func class(name, super string, like string, fields, methods string) api.Class {
	c := api.Class{Name: name, Super: super, Like: strings.Fields(like)}
	for _, s := range strings.Fields(fields) {
		field, kind, _ := strings.Cut(s, ":")
		c.Fields = append(c.Fields, api.Field{Name: field, Kind: kind})
	}
	for _, s := range strings.Fields(methods) {
		c.Methods = append(c.Methods, method(s, false))
	}
	return c
}

func abstract(c api.Class, face bool, methods string) api.Class {
	c.Abstract, c.Interface = true, face
	for _, s := range strings.Fields(methods) {
		c.Methods = append(c.Methods, method(s, true))
	}
	return c
}

// zoo returns a table with something of everything: B and C are derived from A, E from C, and B and E implement I.
func zoo(t *testing.T) *hier.Table {
	t.Helper()
	many := strings.TrimSuffix(strings.Repeat("int,", 24), ",")
	h, _, e := hier.New([]api.Class{
		class("A", "Object", "", "x:int next:A list:A[][][] word:text ok:bool any:Object", "f(int)text g(A,I,bool) h()A[] all("+many+")"),
		class("B", "A", "J", "y:B", "see(text,B)I tell()"),
		abstract(class("C", "A", "", "z:C", ""), false, "wait(int)int"),
		class("E", "C", "I", "", "wait(int)int see(text,B)I"),
		abstract(class("I", "Object", "", "", ""), true, "see(text,B)I"),
		abstract(class("J", "Object", "I", "", ""), true, "tell()"),
		class("F", "Fault", "", "why:A", ""),
	})
	if e != api.OK {
		t.Fatal(e)
	}
	return h
}

// shape returns a shape that is Seen, from the kinds on the stack and of the locals; "-" stands for a local that is not set.
func shape(stack, locals string) api.Shape {
	s := api.Shape{Seen: true, Stack: strings.Fields(stack), Locals: strings.Fields(locals)}
	for i, l := range s.Locals {
		s.Locals[i] = strings.TrimPrefix(l, "-")
	}
	return s
}

// equal compares shapes without the program.
func equal(a, b api.Shape) bool {
	return a.Seen == b.Seen && slices.Equal(a.Stack, b.Stack) && slices.Equal(a.Locals, b.Locals)
}

// instr returns an instruction from its text; a number behind the operator is its number.
func instr(s string) api.Instr {
	op, rest, _ := strings.Cut(s, " ")
	i := api.Instr{Op: op, S: rest}
	if op == "load" || op == "store" || op == "int" || op == "jump" || op == "branch" {
		i.S = ""
		sign := int64(1)
		for _, r := range rest {
			if r == '-' {
				sign = -1
			} else {
				i.N = 10*i.N + sign*int64(r-'0')
			}
		}
	}
	return i
}

// checkDo checks what Do returns, and that it leaves its arguments alone.
func checkDo(t *testing.T, h *hier.Table, m api.Method, i api.Instr, s, want api.Shape, wantE api.Errno) {
	t.Helper()
	before := api.Shape{Seen: s.Seen, Stack: slices.Clone(s.Stack), Locals: slices.Clone(s.Locals)}
	got, e := step.Do(h, m, i, s)
	if !equal(got, want) || e != wantE {
		t.Errorf("%.60v, result %.60q, on %.60q, locals %.60q: %.60v, %d, want %.60v, %d", i, m.Result, s.Stack, s.Locals, got, e, want, wantE)
	}
	if !equal(s, before) {
		t.Errorf("%.60v changed %.60v to %.60v", i, before, s)
	}
	if e != api.OK && !reflect.DeepEqual(got, api.Shape{}) {
		t.Errorf("%.60v on %.60v: error %d with %.60v", i, s, e, got)
	}
}
