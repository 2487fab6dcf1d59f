package vm_test

import (
	"math/rand"
	"slices"
	"strconv"
	"strings"
	"testing"

	"squinch/api"
	"squinch/code"
	"squinch/heap"
	"squinch/hier"
	"squinch/verify"
)

// dice make methods that the verifier accepts, the same in each run of the tests.
type dice struct{ *rand.Rand }

func newDice(seed int64) dice { return dice{rand.New(rand.NewSource(seed))} }

func (d dice) pick(l ...string) string { return l[d.Intn(len(l))] }

// slots are the locals of random methods behind the parameters, each with a name for the pieces, its kind, and texts that set it.
var slots = []struct {
	name, kind string
	starts     []string
}{
	{"$i", "int", []string{"int 3", "int -1", "int 1"}}, {"$j", "int", []string{"int 0", "int 1", "int 2"}}, {"$t", "bool", []string{"true", "false"}}, {"$w", "text", []string{"word ab", "word é"}},
	{"$a", "A", []string{"new A", "load 0; cast A"}}, {"$c", "A", []string{"new B", "new C", "load 0; cast A"}}, {"$b", "B", []string{"new B", "new D", "new B"}}, {"$o", "Object", []string{"load 0", "new U", "int 1; array int"}},
	{"$l", "A[]", []string{"int 2; array A", "int 1; array A"}}, {"$n", "int[]", []string{"int 3; array int", "int 3; array int"}}, {"$f", "Fault", []string{"null", "new Bad", "new ZeroFault"}}, {"$u", "T", []string{"new U"}},
}

// pieces begin and end with an empty stack. A ? stands for an operator of two numbers.
var pieces = []string{
	"load $i; load $j; ?; store $i", "load $i; load $j; ?; store $j", "load $i; load $j; ?; out", "load $j; load $i; ?; dup; out; store $i", "load $i; neg; store $j", "load $i; load $j; less; store $t", "load $i; load $j; same; store $t", "int 1; load $i; shl; store $j", "load $i; int 1; sub; store $i",
	"load $t; not; store $t", "load $t; true; both; store $t", "load $a; load $c; equal; store $t", "load $o; load 0; equal; store $t", "load $t; branch 0", "load $i; load $j; less; branch 0", "load $o; is A; not; branch 0",
	"load $w; load $w; join; store $w", "load $a; load $w; put A.s", "load $c; get A.s; store $w", "load $w; load $a; get A.s; join; store $w",
	"load $a; load $c; put A.next", "load $c; get A.next; store $a", "load $c; load $i; put A.x", "load $a; get A.x; out", "load $b; load $b; put B.back", "load $b; load $i; put B.y", "load $a; load $l; put A.any", "load $c; load $t; put A.ok", "load $a; get A.any; store $o", "load $c; load $l; put A.list",
	"load $l; load $i; load $a; set", "load $l; int 0; load $c; set", "load $l; int 1; at; store $a", "load $l; load $j; at; store $c", "load $n; load $i; load $j; set", "load $n; int 2; int 7; set", "load $n; load $j; at; store $i", "load $n; size; out", "load $l; size; store $j", "load $i; array int; store $n", "int 4; array A; store $l", "load $l; load $n; size; load $b; set",
	"load $c; load $i; call A.f; store $i", "load $b; load $i; call B.f; out", "load $c; load $a; load $w; call A.g; store $a", "load $c; call A.h", "load $b; load $w; call I.see; store $w", "load $b; cast D; load $w; call J.see; store $w", "load $u; call T.make; store $j", "load $c; load $l; load $t; call A.list; store $l", "load $c; load $f; call A.pass; store $o",
	"load $o; cast A; store $a", "load $c; cast B; store $b", "load $a; is B; store $t", "load $o; is int[]; store $t", "load $c; store $a", "load $b; store $c", "new C; store $c", "new D; store $b", "null; store $a", "load $c; call A.h", "load $c; call A.h", "new Worse; store $f",
	"load $f; get Fault.what; store $w", "load $f; word no; put Fault.what", "load $f; throw", "new Bad; throw", "load $a; load $i; swap; pop; out", "load $i; load $a; swap; pop; pop", "jump 0",
}

// signs are the methods whose instructions are random, with their classes. The Locals are those of the parameters and the slots.
var signs = []string{"A.f(int)int", "A.g(A,text)A", "A.h()", "B.f(int)int", "C.g(A,text)A", "B.see(text)text", "D.see(text)text", "U.make()int", "A.list(A[],bool)A[]", "A.pass(Fault)Object"}

// stubs returns the classes of random methods, which do nothing yet.
func stubs(t testing.TB) []api.Class {
	t.Helper()
	classes := []api.Class{
		{Name: "A", Super: "Object", Fields: fields("x:int", "next:A", "s:text", "ok:bool", "any:Object", "list:A[]")},
		{Name: "B", Super: "A", Like: []string{"I"}, Fields: fields("y:int", "back:B")}, {Name: "C", Super: "A"}, {Name: "D", Super: "B", Like: []string{"J"}},
		{Name: "I", Super: "Object", Interface: true, Abstract: true, Methods: []api.Method{method(t, "see(text)text", "")}}, {Name: "J", Super: "Object", Like: []string{"I"}, Interface: true, Abstract: true},
		{Name: "T", Super: "Object", Abstract: true, Methods: []api.Method{method(t, "make()int", "")}}, {Name: "U", Super: "T"}, {Name: "Bad", Super: "Fault", Fields: fields("why:int")}, {Name: "Worse", Super: "Bad"},
	}
	for _, sign := range signs {
		class, sign, _ := strings.Cut(sign, ".")
		m := method(t, sign+" 1", "return")
		m.Locals = 1 + len(m.Params) + len(slots)
		n := slices.IndexFunc(classes, func(c api.Class) bool { return c.Name == class })
		classes[n].Methods = append(classes[n].Methods, m)
	}
	return classes
}

// block returns instructions that begin and end with an empty stack. The locals from a number on are the slots. The target of a branch or a jump is not chosen yet.
func (d dice) block(t testing.TB, first int) []api.Instr {
	var l []string
	for range 1 + d.Intn(6) {
		piece := d.pick(pieces...)
		piece = strings.ReplaceAll(piece, "?", d.pick("add", "sub", "mul", "div", "rem", "and", "or", "xor", "shl", "shr"))
		for n, slot := range slots {
			piece = strings.ReplaceAll(piece, slot.name, strconv.Itoa(first+n))
		}
		l = append(l, piece)
	}
	return read(t, strings.Join(l, "; "))
}

// fill returns a method with random instructions and catches that the verifier accepts.
func (d dice) fill(t testing.TB, h *hier.Table, class string, m api.Method) api.Method {
	t.Helper()
	first := 1 + len(m.Params)
	for {
		m.Code, m.Catches = nil, nil
		for n, slot := range slots {
			start := d.pick(slot.starts...)
			if class == "U" && strings.HasPrefix(start, "load 0; cast") {
				start = "null"
			}
			m.Code = append(m.Code, read(t, start+"; store "+strconv.Itoa(first+n))...)
		}
		starts := []int{len(m.Code)}
		for range 1 + d.Intn(6) {
			m.Code = append(m.Code, d.block(t, first)...)
			starts = append(starts, len(m.Code))
		}
		if m.Result != "" {
			m.Code = append(m.Code, api.Instr{Op: "load", N: int64(first + d.Intn(len(slots)))})
		}
		m.Code = append(m.Code, api.Instr{Op: "return"})
		targets := len(starts)
		for range d.Intn(3) {
			starts = append(starts, len(m.Code))
			m.Code = append(m.Code, read(t, d.pick("pop; jump 0", "throw", "store "+strconv.Itoa(first+10)+"; jump 0", "get Fault.what; pop; jump 0"))...)
		}
		d.aim(&m, starts, targets)
		if _, _, e := verify.Method(h, class, m); e == api.OK && len(m.Code) <= api.MaxCode {
			return m
		}
	}
}

// aim chooses the targets of jumps from the first starts, and catches for the handlers, which are behind these.
func (d dice) aim(m *api.Method, starts []int, targets int) {
	for n := starts[0]; n < len(m.Code); n++ {
		if op := m.Code[n].Op; op == "jump" || op == "branch" {
			m.Code[n].N = int64(starts[d.Intn(targets)])
		}
	}
	for n := targets; n < len(starts); n++ {
		for range 1 + d.Intn(3) {
			from := starts[0] + d.Intn(len(m.Code)-starts[0])
			to := from + 1 + d.Intn(len(m.Code)-from)
			m.Catches = append(m.Catches, caught(from, to, starts[n], d.pick("Fault", "Fault", "Bad", "NullFault", "ZeroFault", "IndexFault")))
		}
	}
}

// classes returns classes with random methods.
func (d dice) classes(t testing.TB) []api.Class {
	l := stubs(t)
	h := table(t, l)
	for _, c := range l {
		for n, m := range c.Methods {
			if !m.Abstract {
				c.Methods[n] = d.fill(t, h, c.Name, m)
			}
		}
	}
	return l
}

// args returns an object of the heap and arguments for a method, and the same for the second definition.
func (d dice) args(h *heap.Heap, s *second, class string, params []string) ([]api.Value, []any) {
	var l []any
	fit := func(o *thing) bool { return s.is(o.kind, class) }
	if n := slices.IndexFunc(s.made, fit); n >= 0 {
		l = append(l, s.made[n])
	}
	for _, kind := range params {
		l = append(l, map[string][]any{
			"int": {int64(d.Intn(4)), int64(d.Uint64())}, "bool": {false, true}, "text": {"", "z", strings.Repeat("é", 2048), strings.Repeat("x", 4090)},
			"A": {nil, s.made[0]}, "A[]": {nil, s.made[3]}, "Fault": {nil, s.made[4]},
		}[kind][d.Intn(2)])
		if kind == "text" && d.Intn(3) == 0 {
			l[len(l)-1] = strings.Repeat("é", 2040)
		}
	}
	var values []api.Value
	for _, v := range l {
		values = append(values, value(v))
	}
	return values, l
}

// shapes returns the shapes of all methods, by class.method.
func shapes(t testing.TB, h *hier.Table) map[string][]api.Shape {
	t.Helper()
	all := map[string][]api.Shape{}
	for _, name := range h.Names() {
		c, _ := h.Get(name)
		for _, m := range c.Methods {
			l, at, e := verify.Method(h, name, m)
			if e != api.OK {
				t.Fatalf("%s.%s: %d at %d", name, m.Name, e, at)
			}
			all[name+"."+m.Name] = l
		}
	}
	return all
}

// P10.2 and P10.3: random methods, step by step, by the second definition and by the shapes of the verifier.
func TestRandomRuns(t *testing.T) {
	d, seen := newDice(10), map[string]int{}
	for range 150 {
		table := accepted(t, d.classes(t))
		known := shapes(t, table)
		for range 16 {
			room := []int{24, 60, 300, 5000}[d.Intn(4)] + d.Intn(20)
			h, s := empty(t, table, room), newSecond(table, room, 1000)
			for _, class := range []string{"A", "D", "U"} {
				h.Object(class)
				names, kinds := s.fields(class)
				s.create(class, names, kinds)
			}
			h.Array("A", 1)
			s.create("A[]", nil, []string{"A"})
			h.Object("Bad")
			names, kinds := s.fields("Bad")
			s.create("Bad", names, kinds)
			compareRuns(t, d, h, s, known)
			for name, n := range s.seen {
				seen[name] += n
			}
		}
	}
	t.Log(seen)
	wanted := append(code.Ops(), strings.Fields("NullFault IndexFault CastFault ZeroFault RoomFault EndNot EndValue EndThrown EndFull EndDeep caught")...)
	for _, name := range wanted {
		if seen[name] < 10 {
			t.Errorf("%s only %d times", name, seen[name])
		}
	}
}

// compareRuns compares a run of a random method on a heap with that of the second definition.
func compareRuns(t *testing.T, d dice, h *heap.Heap, s *second, known map[string][]api.Shape) {
	t.Helper()
	class, name, _ := strings.Cut(d.pick("A.f", "A.g", "A.h", "B.f", "D.g", "I.see", "J.see", "T.make", "A.list", "A.pass"), ".")
	_, declared, _ := s.method(class, name)
	args, things := d.args(h, s, class, declared.Params)
	m := begin(t, h, class, name, args...)
	owner, method, _ := s.method(h.Kind(args[0].Ref), name)
	end := s.run(owner, method, things)
	s.seen[[]string{"EndNot", "EndValue", "EndThrown", "EndFull", "EndDeep"}[end.Way]]++
	for n, where := range s.trace {
		if got := look(m); got != where || m.End() != (api.Ending{}) {
			t.Fatalf("%d: %s, want %s\n%v", n, got, where, method)
		}
		class, name, at := m.Where()
		stack, locals := m.Kinds()
		if !verify.Fits(h.Table(), known[class+"."+name][at], stack, locals) || (n%16 == 0 || h.Len() < 12) && !h.Right() {
			t.Fatalf("%s does not fit %v, or %v is not right", where, known[class+"."+name][at], h.Cells())
		}
		if ended := m.Step(); ended != (end.Way != api.EndNot && n == len(s.trace)-1) {
			t.Fatalf("%d: ended: %v, want %v", n, ended, end)
		}
	}
	checkEnd(t, m, end)
	same := func(a, b api.Cell) bool { return a.Kind == b.Kind && slices.Equal(a.Values, b.Values) }
	if !slices.Equal(m.Outs(), s.outs) || !slices.EqualFunc(h.Cells(), s.cells(), same) || h.Left() != s.left || !h.Right() || t.Failed() {
		t.Fatalf("%v, %v, %d left, want\n%v, %v, %d\n%v", m.Outs(), h.Cells(), h.Left(), s.outs, s.cells(), s.left, method)
	}
}
