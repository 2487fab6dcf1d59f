package vm_test

import (
	"cmp"
	"fmt"
	"slices"
	"strings"
	"testing"

	"squinch/api"
	"squinch/code"
	"squinch/heap"
	"squinch/hier"
	"squinch/verify"
	"squinch/vm"
)

var null = api.Value{}

func num(n int64) api.Value { return api.Value{Sort: api.Int, N: n} }

func flag(n int64) api.Value { return api.Value{Sort: api.Bool, N: n} }

func text(s string) api.Value { return api.Value{Sort: api.Text, S: s} }

func ref(n int) api.Value { return api.Value{Sort: api.Ref, Ref: n} }

// read returns instructions from a text with "; " between them.
func read(t testing.TB, s string) []api.Instr {
	t.Helper()
	l, e := code.Read(strings.ReplaceAll(s, "; ", "\n") + "\n")
	if e != api.OK {
		t.Fatalf("%q: %d", s, e)
	}
	return l
}

// method returns a method from its signature and its number of locals, such as "f(int,A)text 3", and its instructions. It is abstract without locals.
func method(t testing.TB, sign, text string, catches ...api.Catch) api.Method {
	t.Helper()
	name, rest, _ := strings.Cut(sign, "(")
	params, rest, _ := strings.Cut(rest, ")")
	result, locals, ok := strings.Cut(rest, " ")
	m := api.Method{Name: name, Result: result, Abstract: !ok, Catches: catches}
	if params != "" {
		m.Params = strings.Split(params, ",")
	}
	if ok {
		fmt.Sscan(locals, &m.Locals)
		m.Code = read(t, text)
	}
	return m
}

func caught(from, to, at int, class string) api.Catch {
	return api.Catch{From: from, To: to, At: at, Class: class}
}

func fields(l ...string) []api.Field {
	var f []api.Field
	for _, s := range l {
		name, kind, _ := strings.Cut(s, ":")
		f = append(f, api.Field{Name: name, Kind: kind})
	}
	return f
}

// zoo returns classes of which B and C are derived from A, D from B, U from the abstract T, and Worse from Bad, a Fault; B implements I, and D by it J. Those of more are methods of A.
func zoo(t testing.TB, more ...api.Method) []api.Class {
	t.Helper()
	return []api.Class{
		{Name: "A", Super: "Object", Fields: fields("x:int", "next:A", "s:text", "ok:bool", "any:Object", "list:A[]"), Methods: append(more,
			method(t, "who()int 1", "int 1; return"),
			method(t, "id(int,A,text)A 4", "load 2; return"),
			method(t, "quiet() 1", "int 5; return"),
			method(t, "bad() 1", "int 1; int 0; div; pop; return"),
			method(t, "pass(Fault) 2", "load 1; throw"),
			method(t, "both(int,bool)int 3", "load 0; call A.who; return"),
		)},
		{Name: "B", Super: "A", Like: []string{"I"}, Fields: fields("y:int"), Methods: []api.Method{
			method(t, "who()int 2", "int 2; return"),
			method(t, "see(text)text 2", "load 1; word b; join; return"),
		}},
		{Name: "C", Super: "A"},
		{Name: "D", Super: "B", Like: []string{"J"}, Methods: []api.Method{method(t, "see(text)text 2", "load 1; word d; join; return")}},
		{Name: "I", Super: "Object", Interface: true, Abstract: true, Methods: []api.Method{method(t, "see(text)text", "")}},
		{Name: "J", Super: "Object", Like: []string{"I"}, Interface: true, Abstract: true},
		{Name: "T", Super: "Object", Abstract: true, Methods: []api.Method{method(t, "make()int", ""), method(t, "twice()int 1", "load 0; call T.make; load 0; call T.make; add; return")}},
		{Name: "U", Super: "T", Methods: []api.Method{method(t, "make()int 1", "int 21; return")}},
		{Name: "Bad", Super: "Fault", Fields: fields("why:int")},
		{Name: "Worse", Super: "Bad"},
	}
}

// show writes kinds with spaces between them; "-" stands for a local that is not set.
func show(kinds []string) string {
	l := slices.Clone(kinds)
	for n, s := range l {
		l[n] = cmp.Or(s, "-")
	}
	return strings.Join(l, " ")
}

func table(t testing.TB, l []api.Class) *hier.Table {
	t.Helper()
	h, at, e := hier.New(l)
	if e != api.OK {
		t.Fatal(at, e)
	}
	return h
}

// accepted returns the table of classes that the verifier accepts.
func accepted(t testing.TB, l []api.Class) *hier.Table {
	t.Helper()
	h := table(t, l)
	if class, method, at, e := verify.All(h); e != api.OK {
		t.Fatalf("%s.%s: %d at %d", class, method, e, at)
	}
	return h
}

func empty(t testing.TB, h *hier.Table, room int) *heap.Heap {
	t.Helper()
	hp, e := heap.New(h, room)
	if e != api.OK {
		t.Fatal(e)
	}
	return hp
}

func begin(t testing.TB, h *heap.Heap, class, method string, args ...api.Value) *vm.Machine {
	t.Helper()
	m, e := vm.New(h, class, method, args)
	if e != api.OK || m == nil {
		t.Fatalf("%s.%s of %v: %d", class, method, args, e)
	}
	return m
}

// started returns a run of a method of A that has the given result, four locals of which the first is an object of B, and these instructions. That object, the number 0, occupies 8 of the room.
func started(t testing.TB, room int, result, text string, catches ...api.Catch) (*heap.Heap, *vm.Machine) {
	t.Helper()
	h := empty(t, accepted(t, zoo(t, method(t, "m()"+result+" 4", text, catches...))), room)
	if n, e := h.Object("B"); n != 0 || e != api.OK {
		t.Fatal(n, e)
	}
	return h, begin(t, h, "A", "m", ref(0))
}

// checkEnd checks how a run ended, and that it has ended.
func checkEnd(t testing.TB, m *vm.Machine, want api.Ending) {
	t.Helper()
	if e := m.End(); e != want {
		t.Errorf("ended %v, want %v", e, want)
	}
	class, method, at := m.Where()
	stack, locals := m.Kinds()
	if ended := want.Way != api.EndNot; ended && (m.Deep() != 0 || class != "" || method != "" || at != 0 || len(stack) != 0 || len(locals) != 0 || !m.Step() || m.Run(5) != 0 || m.End() != want) {
		t.Errorf("after the end: %d calls, %q.%q at %d, %q, %q, then %v", m.Deep(), class, method, at, stack, locals, m.End())
	}
}

// checkThrown checks that a run ended with an object of this class that is as it was created.
func checkThrown(t testing.TB, h *heap.Heap, m *vm.Machine, class string) {
	t.Helper()
	checkEnd(t, m, api.Ending{Way: api.EndThrown, Value: ref(h.Len() - 1)})
	if cells := h.Cells(); cells[len(cells)-1].Kind != class || !slices.Equal(cells[len(cells)-1].Values, []api.Value{text("")}) {
		t.Errorf("threw %v, want a new %s", cells[len(cells)-1], class)
	}
}
