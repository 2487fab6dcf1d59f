package verify_test

import (
	"reflect"
	"slices"
	"strings"
	"testing"

	"squinch/api"
	"squinch/code"
	"squinch/hier"
	"squinch/verify"
)

// read returns instructions from a text with "; " between them. Operators that do not exist may be in it.
func read(s string) []api.Instr {
	var l []api.Instr
	for line := range strings.SplitSeq(s, "; ") {
		if line == "" {
			continue
		}
		one, e := code.Read(line + "\n")
		if e != api.OK {
			one = []api.Instr{{Op: line}}
		}
		l = append(l, one...)
	}
	return l
}

// method returns a method from its signature and its number of locals, such as "f(int,A)text 3", and its instructions.
func method(t testing.TB, sign, text string, catches ...api.Catch) api.Method {
	t.Helper()
	name, rest, _ := strings.Cut(sign, "(")
	params, rest, _ := strings.Cut(rest, ")")
	result, locals, ok := strings.Cut(rest, " ")
	m := api.Method{Name: name, Result: result, Abstract: !ok, Code: read(text), Catches: catches}
	if params != "" {
		m.Params = strings.Split(params, ",")
	}
	for _, digit := range locals {
		m.Locals = 10*m.Locals + int(digit-'0')
	}
	return m
}

func table(t testing.TB, l ...api.Class) *hier.Table {
	t.Helper()
	h, at, e := hier.New(l)
	if e != api.OK {
		t.Fatal(at, e)
	}
	return h
}

func zoo(t testing.TB) *hier.Table {
	t.Helper()
	return table(t, zooClasses(t)...)
}

// zooClasses returns classes of which B and C are derived from A and implement I, D is derived from B, T is abstract, and Worse is derived from Bad, a Fault.
func zooClasses(t testing.TB) []api.Class {
	t.Helper()
	fields := func(l ...string) []api.Field {
		var f []api.Field
		for _, s := range l {
			name, kind, _ := strings.Cut(s, ":")
			f = append(f, api.Field{Name: name, Kind: kind})
		}
		return f
	}
	see := method(t, "see(text)A 2", "load 0; return")
	up := method(t, "up(int)A 2", "load 0; get A.next; return")
	take := method(t, "take(B,bool) 3", "return")
	return []api.Class{
		{Name: "D", Super: "B", Methods: []api.Method{up}},
		{Name: "B", Super: "A", Like: []string{"I"}, Fields: fields("y:B"), Methods: []api.Method{see}},
		{Name: "C", Super: "A", Like: []string{"I"}, Methods: []api.Method{see}},
		{Name: "A", Super: "Object", Fields: fields("x:int", "next:A", "list:A[]", "any:Object", "word:text"), Methods: []api.Method{up, take}},
		{Name: "T", Super: "A", Abstract: true},
		{Name: "I", Super: "Object", Interface: true, Abstract: true, Methods: []api.Method{method(t, "see(text)A", "")}},
		{Name: "Bad", Super: "Fault", Fields: fields("why:A")},
		{Name: "Worse", Super: "Bad"},
	}
}

// show writes shapes in short: the stack, a bar and the locals ("-" stands for one that is not set) of each, and "?" for one that is not Seen.
func show(l []api.Shape) string {
	var lines []string
	for _, s := range l {
		locals := slices.Clone(s.Locals)
		for i, local := range locals {
			if local == "" {
				locals[i] = "-"
			}
		}
		line := strings.Join(s.Stack, " ") + "|" + strings.Join(locals, " ")
		if !s.Seen {
			line = strings.Replace("?"+line, "?|", "?", 1)
		}
		lines = append(lines, line)
	}
	return strings.Join(lines, "; ")
}

// accepts checks that a method is accepted, with these shapes.
func accepts(t *testing.T, class string, m api.Method, want string) {
	t.Helper()
	l, at, e := verify.Method(zoo(t), class, m)
	if got := show(l); got != want || len(l) != len(m.Code) || at != 0 || e != api.OK {
		t.Errorf("%.200v: %d, %d\n%.300s, want\n%.300s", m, at, e, got, want)
	}
}

// rejects checks that a method has this error, and nothing else.
func rejects(t *testing.T, class string, m api.Method, at int, want api.Errno) {
	t.Helper()
	l, got, e := verify.Method(zoo(t), class, m)
	if l != nil || got != at || e != want {
		t.Errorf("%.200v of %.50q: %d at %d, want %d at %d, with %.100v", m, class, e, got, want, at, l)
	}
}

// copied returns a copy of a method that shares no list with it.
func copied(m api.Method) api.Method {
	m.Params, m.Code, m.Catches = slices.Clone(m.Params), slices.Clone(m.Code), slices.Clone(m.Catches)
	return m
}

func sameShapes(a, b []api.Shape) bool {
	return slices.EqualFunc(a, b, func(x, y api.Shape) bool {
		return x.Seen == y.Seen && slices.Equal(x.Stack, y.Stack) && slices.Equal(x.Locals, y.Locals)
	})
}

// unchanged calls f and checks that a method is the same before and after.
func unchanged(t *testing.T, m api.Method, f func()) {
	t.Helper()
	before := copied(m)
	f()
	if !reflect.DeepEqual(m, before) {
		t.Errorf("%.100v became %.100v", before, m)
	}
}
