package vm_test

import (
	"slices"
	"strings"
	"testing"

	"squinch/api"
)

// P10.2: which instruction causes which fault.
func TestFaults(t *testing.T) {
	null, array := "null; store 1; load 1; ", "int 2; array int; store 1; load 1; "
	for class, texts := range map[string][]string{
		"NullFault": {
			null + "get A.x; pop; return", null + "int 1; put A.x; return", null + "call A.quiet; return", null + "int 1; load 0; word a; call A.id; pop; return", null + "throw",
			"null; cast int[]; store 1; load 0; get A.list; size; pop; return", "load 0; get A.list; int 0; at; pop; return", "load 0; get A.list; int 0; null; set; return",
			// null comes before the place
			"load 0; get A.list; int -1; at; pop; return", "load 0; get A.list; int 99; load 0; set; return",
			"load 0; get A.next; get A.next; pop; return", "null; cast I; word a; call I.see; pop; return", "load 0; get A.next; call A.bad; return", "null; cast Bad; throw",
		},
		"IndexFault": {
			array + "int 2; at; pop; return", array + "int -1; at; pop; return", array + "int " + least + "; at; pop; return", array + "int " + greatest + "; at; pop; return", array + "int 4294967296; at; pop; return",
			array + "int 2; int 1; set; return", array + "int -1; int 1; set; return", array + "int " + least + "; int 1; set; return", array + "int 4294967297; int 1; set; return",
			"int 0; array A; int 0; at; pop; return", "int 0; array A; int 0; null; set; return",
			"int -1; array int; pop; return", "int " + least + "; array A; pop; return", "int -4294967296; array text; pop; return",
		},
		"ZeroFault": {"int 1; int 0; div; pop; return", "int 0; int 0; div; pop; return", "int 1; int 0; rem; pop; return", "int 0; int 0; rem; pop; return", "int " + least + "; int 0; div; pop; return"},
		"CastFault": {"new A; cast B; pop; return", "load 0; cast D; pop; return", "int 1; array B; cast A[]; pop; return", "load 0; cast int[]; pop; return", "new A; cast I; pop; return", "new Fault; cast ZeroFault; pop; return"},
		"RoomFault": {
			"int 40; array int; pop; return", "int " + greatest + "; array A; pop; return", "int 4294967296; array A; pop; return", "int 1048576; array A; pop; return", "int 24; array int; pop; new B; pop; return",
			"word a; store 1; load 1; load 1; join; store 1; jump 2",
		},
	} {
		for _, text := range texts {
			h, m := started(t, 40, "", text)
			m.Run(1000)
			checkThrown(t, h, m, class)
			checkCaught(t, text, class)
		}
	}
}

// checkCaught checks that a method that is left by a fault goes on with this fault alone, if it catches it.
func checkCaught(t *testing.T, text, class string) {
	t.Helper()
	behind := strings.Count(text, "; ") + 1
	h, m := started(t, 40, "", text+"; pop; return", caught(0, behind, behind, class))
	for _, _, at := m.Where(); at != behind; _, _, at = m.Where() {
		if m.Step() {
			t.Fatalf("%s: ended %v", text, m.End())
		}
	}
	stack, _ := m.Kinds()
	if show(stack) != class || m.Deep() != 1 || h.Kind(h.Len()-1) != class {
		t.Errorf("%s: %q, %d calls", text, stack, m.Deep())
	}
	if n := m.Run(9); n != 2 {
		t.Errorf("%s: %d instructions behind the catch", text, n)
	}
	checkEnd(t, m, api.Ending{Way: api.EndValue})
}

// P10.2: an object or an array is created as long as there is room. Otherwise there is a RoomFault, for which, as for every fault, there must be room for 2; if there is not, the run ends.
func TestRoom(t *testing.T) {
	two, bad := "int 1; array A; pop; int 3; array A; pop; return", "load 0; call A.bad; return"
	for _, x := range []struct {
		text    string
		left    int
		end     string // the class of the fault, or how the run ends without one
		leftNow int
	}{
		{"new A; pop; return", 8, "value", 1}, {"new A; pop; return", 7, "value", 0}, {"new A; pop; return", 6, "RoomFault", 4}, {"new A; pop; return", 2, "RoomFault", 0}, {"new A; pop; return", 1, "full", 1}, {"new A; pop; return", 0, "full", 0},
		{"new Object; pop; return", 1, "value", 0}, {"new Object; pop; return", 0, "full", 0}, {"new ZeroFault; pop; return", 2, "value", 0}, {"new ZeroFault; pop; return", 1, "full", 1}, {"new Bad; pop; return", 3, "value", 0}, {"new Bad; pop; return", 2, "RoomFault", 0},
		{"int 3; array int; pop; return", 4, "value", 0}, {"int 3; array int; pop; return", 3, "RoomFault", 1}, {"int 3; array int; pop; return", 2, "RoomFault", 0}, {"int 3; array int; pop; return", 1, "full", 1}, {"int 0; array int; pop; return", 1, "value", 0}, {"int 0; array int; pop; return", 0, "full", 0},
		{two, 6, "value", 0}, {two, 5, "RoomFault", 1}, {two, 4, "RoomFault", 0}, {two, 3, "full", 1}, {two, 2, "full", 0}, {two, 1, "full", 1}, {two, 0, "full", 0},
		{"int -1; array int; pop; return", 2, "IndexFault", 0}, {"int -1; array int; pop; return", 1, "full", 1}, {"null; get A.x; pop; return", 2, "NullFault", 0}, {"null; get A.x; pop; return", 1, "full", 1}, {"null; throw", 2, "NullFault", 0}, {"null; throw", 0, "full", 0},
		{"load 0; cast D; pop; return", 2, "CastFault", 0}, {"load 0; cast D; pop; return", 1, "full", 1}, {bad, 2, "ZeroFault", 0}, {bad, 1, "full", 1}, {bad, 0, "full", 0},
		{"int 99; neg; out; new Bad; throw", 3, "Bad", 0},
	} {
		h, m := started(t, 8+x.left, "", x.text)
		m.Run(99)
		switch x.end {
		case "value":
			checkEnd(t, m, api.Ending{Way: api.EndValue})
		case "full":
			checkEnd(t, m, api.Ending{Way: api.EndFull})
		case "Bad":
			checkEnd(t, m, api.Ending{Way: api.EndThrown, Value: ref(1)})
		default:
			checkThrown(t, h, m, x.end)
		}
		if h.Left() != x.leftNow || !h.Right() {
			t.Errorf("%s with %d: %d left, want %d", x.text, x.left, h.Left(), x.leftNow)
		}
	}
}

// P10.2: the end for lack of room, and that for too many calls, are not caught.
func TestEndsAreNotCaught(t *testing.T) {
	_, m := started(t, 9, "int", "int 1; int 0; div; return; pop; int 5; return", caught(0, 4, 4, "Fault"))
	if n := m.Run(99); n != 3 {
		t.Error(n)
	}
	checkEnd(t, m, api.Ending{Way: api.EndFull})
	_, m = started(t, 30, "int", "load 0; call A.m; return; pop; int 5; return", caught(0, 3, 3, "Fault"))
	if n := m.Run(999); n != 64 {
		t.Error(n)
	}
	checkEnd(t, m, api.Ending{Way: api.EndDeep})
}

// P10.2: the first catch in order, of those that cover the instruction and whose class fits.
func TestCatches(t *testing.T) {
	// Instruction 3 divides; the handlers return the number of their place.
	const text = "int 9; int 1; int 0; div; return; pop; int 5; return; pop; int 8; return"
	first, second := num(5), num(8)
	thrown := api.Value{Sort: -1}
	for _, x := range []struct {
		catches []api.Catch
		want    api.Value
	}{
		{nil, thrown}, {[]api.Catch{caught(0, 5, 5, "ZeroFault")}, first}, {[]api.Catch{caught(0, 5, 5, "Fault")}, first},
		{[]api.Catch{caught(0, 5, 5, "NullFault")}, thrown}, {[]api.Catch{caught(0, 5, 5, "Bad")}, thrown}, {[]api.Catch{caught(0, 5, 5, "CallFault"), caught(0, 5, 8, "Bad")}, thrown},
		{[]api.Catch{caught(3, 4, 5, "Fault")}, first}, {[]api.Catch{caught(0, 3, 5, "Fault")}, thrown}, {[]api.Catch{caught(4, 11, 5, "Fault")}, thrown}, {[]api.Catch{caught(2, 4, 5, "Fault")}, first}, {[]api.Catch{caught(3, 11, 5, "Fault")}, first},
		{[]api.Catch{caught(0, 5, 5, "Fault"), caught(0, 5, 8, "ZeroFault")}, first}, {[]api.Catch{caught(0, 5, 8, "Fault"), caught(0, 5, 5, "ZeroFault")}, second}, {[]api.Catch{caught(0, 5, 5, "NullFault"), caught(0, 5, 8, "ZeroFault")}, second}, {[]api.Catch{caught(0, 3, 5, "Fault"), caught(3, 4, 8, "Fault")}, second}, {[]api.Catch{caught(4, 5, 5, "Fault"), caught(0, 11, 8, "Fault")}, second},
	} {
		h, m := started(t, 40, "int", text, x.catches...)
		if m.Run(99); x.want == thrown {
			checkThrown(t, h, m, "ZeroFault")
			continue
		}
		if checkEnd(t, m, api.Ending{Way: api.EndValue, Value: x.want}); t.Failed() {
			t.Fatal(x.catches)
		}
	}
}

// P10.2: what is caught is the object that was thrown, the only value on the stack; the locals stay as they are, and the instruction that threw has done nothing.
func TestCaught(t *testing.T) {
	h, m := started(t, 40, "Fault", "int 7; store 1; int 1; new Worse; dup; store 2; throw; store 3; load 1; out; load 3; load 2; equal; not; branch 0; load 3; return", caught(6, 7, 7, "Bad"))
	for range 7 {
		m.Step()
	}
	stack, locals := m.Kinds()
	if _, _, at := m.Where(); at != 7 || show(stack) != "Worse" || show(locals) != "B int Worse -" {
		t.Errorf("at %d: %q, %q", at, stack, locals)
	}
	m.Run(99)
	checkEnd(t, m, api.Ending{Way: api.EndValue, Value: ref(1)})
	if !slices.Equal(m.Outs(), []int64{7}) || h.Len() != 2 {
		t.Error(m.Outs(), h.Cells())
	}
	// Each fault is a new object, whose field what is empty.
	h, m = started(t, 40, "text", "int 1; int 0; div; pop; word none; return; dup; word x; put Fault.what; store 2; int 1; int 0; rem; pop; word none; return; get Fault.what; return", caught(0, 4, 6, "ZeroFault"), caught(10, 14, 16, "ZeroFault"))
	m.Run(99)
	checkEnd(t, m, api.Ending{Way: api.EndValue, Value: text("")})
	if v, _ := h.Get(1, 0); v != text("x") || h.Len() != 3 {
		t.Error(h.Cells())
	}
}

// P10.2: a handler may cover itself, and what it throws is searched for from the first catch on.
func TestThrownByHandlers(t *testing.T) {
	const text = "int 1; int 0; div; pop; return; dup; store 2; throw; pop; return"
	_, m := started(t, 40, "", text, caught(0, 8, 5, "ZeroFault"), caught(5, 8, 8, "Fault"))
	if n := m.Run(1000); n != 1000 {
		t.Error(n)
	}
	_, m = started(t, 40, "", text, caught(0, 5, 5, "ZeroFault"), caught(5, 8, 8, "Fault"))
	if n := m.Run(1000); n != 3+3+2 {
		t.Error(n)
	}
	checkEnd(t, m, api.Ending{Way: api.EndValue})
	_, m = started(t, 40, "", text, caught(0, 7, 5, "ZeroFault"), caught(0, 7, 8, "Fault"))
	if n := m.Run(1000); n != 3+3 {
		t.Error(n)
	}
	checkEnd(t, m, api.Ending{Way: api.EndThrown, Value: ref(1)})
}

// P10.2: what a method throws is thrown in its caller at the call, whose arguments are gone.
func TestThrownInCallers(t *testing.T) {
	const text = "int 5; load 0; call A.bad; int 3; return; pop; int 4; return"
	for _, x := range []struct {
		catches []api.Catch
		want    int64
	}{
		{nil, 0}, {[]api.Catch{caught(2, 3, 5, "Fault")}, 4}, {[]api.Catch{caught(0, 2, 5, "Fault")}, 0}, {[]api.Catch{caught(3, 8, 5, "Fault")}, 0}, {[]api.Catch{caught(2, 3, 5, "ZeroFault")}, 4}, {[]api.Catch{caught(2, 3, 5, "NullFault")}, 0},
	} {
		h, m := started(t, 40, "int", text, x.catches...)
		if m.Run(99); x.want == 0 {
			checkThrown(t, h, m, "ZeroFault")
			continue
		}
		checkEnd(t, m, api.Ending{Way: api.EndValue, Value: num(x.want)})
	}
	// Through calls that do not catch it, in one step.
	classes := zoo(t,
		method(t, "top()int 2", "load 0; int 3; call A.down; int 1; return; store 1; int 2; return", caught(2, 3, 5, "ZeroFault")),
		method(t, "down(int) 2", "load 1; int 1; less; branch 10; load 0; load 1; int 1; sub; call A.down; return; load 0; call A.bad; return; return", caught(0, 13, 13, "NullFault"), caught(0, 8, 13, "Fault"), caught(9, 11, 13, "Fault")),
	)
	h := empty(t, accepted(t, classes), 40)
	h.Object("A")
	m := begin(t, h, "A", "top", ref(0))
	deep := 0
	for !m.Step() {
		if now := m.Deep(); now > deep {
			deep = now
		} else if now < deep {
			class, name, at := m.Where()
			stack, locals := m.Kinds()
			if deep != 6 || now != 1 || class != "A" || name != "top" || at != 5 || show(stack) != "ZeroFault" || show(locals) != "A -" {
				t.Errorf("from %d to %d calls, %s.%s at %d: %q, %q", deep, now, class, name, at, stack, locals)
			}
			break
		}
	}
	m.Run(99)
	checkEnd(t, m, api.Ending{Way: api.EndValue, Value: num(2)})
}

// P10.2: 32 nested calls may be, and one more may not. null has no method that could be called.
func TestDeep(t *testing.T) {
	const down = "load 1; int 1; less; branch 10; load 0; load 1; int 1; sub; call A.down; return"
	last := map[string]string{"ends": "; return", "calls": "; load 0; call A.quiet; return", "calls null": "; null; cast A; call A.quiet; return", "faults": "; int 1; int 0; div; pop; return"}
	for _, x := range []struct {
		last  string
		n     int64
		way   int
		class string
	}{
		{"ends", 30, api.EndValue, ""}, {"ends", 31, api.EndValue, ""}, {"ends", 32, api.EndDeep, ""}, {"ends", 99, api.EndDeep, ""},
		{"calls", 30, api.EndValue, ""}, {"calls", 31, api.EndDeep, ""},
		{"calls null", 30, api.EndThrown, "NullFault"}, {"calls null", 31, api.EndThrown, "NullFault"}, {"calls null", 32, api.EndDeep, ""},
		{"faults", 31, api.EndThrown, "ZeroFault"}, {"faults", 32, api.EndDeep, ""},
	} {
		h := empty(t, accepted(t, zoo(t, method(t, "down(int) 2", down+last[x.last]))), 40)
		h.Object("A")
		m := begin(t, h, "A", "down", ref(0), num(x.n))
		most := 0
		for !m.Step() {
			most = max(most, m.Deep())
		}
		if x.class != "" {
			checkThrown(t, h, m, x.class)
		} else {
			checkEnd(t, m, api.Ending{Way: x.way})
		}
		if calls := int(x.n) + 1; x.last != "calls" && most != min(calls, api.MaxCalls) {
			t.Errorf("%s after %d: up to %d calls", x.last, x.n, most)
		}
	}
}
