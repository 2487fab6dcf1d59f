package vm_test

import (
	"math"
	"strings"
	"testing"

	"squinch/api"
	"squinch/code"
	"squinch/heap"
	"squinch/verify"
	"squinch/vm"
)

// nonsense returns a method of valid instructions that make no sense together.
func (d dice) nonsense(m api.Method) api.Method {
	numbers := []int64{0, 0, 0, 1, 1, 1, 2, 2, 3, 4, 5, 6, 7, -1, 62, 63, 64, 199, 200, 1 << 32, -1 << 32, 1<<32 + 1, math.MaxInt64, math.MinInt64}
	m.Locals, m.Catches = len(m.Params)+1+d.Intn(4), nil
	m.Code = make([]api.Instr, 1+d.Intn(20))
	for n := range m.Code {
		i := api.Instr{Op: d.pick(append(code.Ops(), "load", "load", "call", "call", "new", "int", "dup")...)}
		number, word, _ := code.Takes(i.Op)
		if number {
			i.N = numbers[d.Intn(len(numbers))]
		}
		switch {
		case i.Op == "word":
			i.S = d.pick("", "a", strings.Repeat("é", 32))
		case i.Op == "new":
			i.S = d.pick("A", "B", "T", "I", "Z", "Bad", "Object")
		case i.Op == "array":
			i.S = d.pick("int", "A", "Z", "T[]", "bool[][]")
		case i.Op == "call":
			i.S = d.pick("A.f", "A.g", "A.h", "I.see", "T.make", "A.none", "Z.f", "A.pass", "A.list")
		case i.Op == "is" || i.Op == "cast":
			i.S = d.pick("A", "Z", "I", "A[]", "Z[]", "Object")
		case word:
			i.S = d.pick("A.x", "A.next", "B.y", "B.back", "A.none", "Z.x", "Bad.why", "Fault.what", "A.list", "A.s")
		}
		m.Code[n] = i
	}
	for range d.Intn(4) {
		from := d.Intn(len(m.Code))
		m.Catches = append(m.Catches, caught(from, from+1+d.Intn(len(m.Code)-from), d.Intn(len(m.Code)), d.pick("Fault", "Fault", "NullFault", "A", "Z", "Object")))
	}
	return m
}

// ask asks a run for everything.
func ask(t *testing.T, h *heap.Heap, m *vm.Machine) {
	t.Helper()
	stack, locals := m.Kinds()
	class, method, at := m.Where()
	ended := m.End().Way != api.EndNot
	if m.Deep() < 0 || m.Deep() > api.MaxCalls || len(stack) > api.MaxStack || len(locals) > 64 || ended != (m.Deep() == 0) || ended && (len(stack)+len(locals)+at != 0 || class+method != "") || !h.Right() {
		t.Fatalf("%d calls, %v; %v, %v, %s.%s at %d", m.Deep(), m.End(), stack, locals, class, method, at)
	}
}

// P1: methods that the verifier does not accept do not panic, and neither do runs whose objects are cut from the heap.
func TestBrokenMethods(t *testing.T) {
	d, broken, ends := newDice(1), 0, map[int]int{}
	for range 1200 {
		classes := stubs(t)
		for _, c := range classes {
			for n, m := range c.Methods {
				if !m.Abstract {
					c.Methods[n] = d.nonsense(m)
				}
			}
		}
		h := empty(t, table(t, classes), d.Intn(100)+10)
		if _, _, _, e := verify.All(h.Table()); e != api.OK {
			broken++
		}
		n, _ := h.Object("D")
		args := map[string][]api.Value{"A.f": {num(3)}, "A.g": {null, text("a")}, "A.h": nil, "B.f": {num(-1)}, "I.see": {text("é")}, "A.list": {null, flag(1)}, "A.pass": {null}}
		for _, name := range []string{"A.f", "A.g", "A.h", "B.f", "I.see", "A.list", "A.pass"} {
			if h.Kind(n) == "" {
				n, _ = h.Object("D")
			}
			class, name, _ := strings.Cut(name, ".")
			m, e := vm.New(h, class, name, append([]api.Value{ref(n)}, args[class+"."+name]...))
			for e == api.OK && d.Intn(60) > 0 && m.Run(1+d.Intn(4)) > 0 {
				ask(t, h, m)
				if d.Intn(20) == 0 {
					h.Cut(d.Intn(h.Len() + 1))
				}
			}
			if e == api.OK {
				m.Outs()
				ends[m.End().Way]++
			}
		}
	}
	if broken < 1000 || len(ends) != 5 {
		t.Errorf("%d of 1200 broken, ends %v", broken, ends)
	}
}

// P1: such methods cannot fill the memory.
func TestBrokenStack(t *testing.T) {
	classes := zoo(t, method(t, "m() 2", "int 1; jump 0"), method(t, "out() 1", "jump 200"), method(t, "back() 1", "jump -1"), method(t, "far() 1", "jump 4294967296"), method(t, "fall()int 1", "int 1"), method(t, "none()int 1", "return"))
	h := empty(t, table(t, classes), 40)
	h.Object("A")
	m := begin(t, h, "A", "m", ref(0))
	if n := m.Run(1000001); n != 1000001 {
		t.Error(n)
	}
	ask(t, h, m)
	for _, name := range strings.Fields("out back far fall none") {
		m := begin(t, h, "A", name, ref(0))
		m.Run(1000)
		ask(t, h, m)
	}
}

// P1: objects of a run are cut from the heap.
func TestCutHeap(t *testing.T) {
	starts := []string{"load 0; cast A; store 1; load 1; ", "new Bad; store 1; load 1; ", "int 3; array int; store 1; load 1; "}
	texts := strings.Split("get A.x; pop; return|int 1; put A.x; return|call A.quiet; return|is B; pop; return|cast B; pop; return|throw|load 0; equal; pop; return|size; pop; return|int 0; at; pop; return|int 0; int 1; set; return", "|")
	for _, start := range starts {
		for _, text := range texts {
			before := strings.Count(start, ";")
			h := empty(t, table(t, zoo(t, method(t, "m() 2", start+text, caught(before, before+1, 0, "Fault")))), 40)
			h.Object("B")
			m := begin(t, h, "A", "m", ref(0))
			m.Run(before)
			h.Cut(0)
			for range 20 {
				ask(t, h, m)
				m.Step()
			}
		}
	}
}
