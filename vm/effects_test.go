package vm_test

import (
	"math"
	"slices"
	"strings"
	"testing"

	"squinch/api"
)

const least = "-9223372036854775808"
const greatest = "9223372036854775807"

// returned is a method, by its result and its instructions, and the value that it returns to its caller.
type returned struct {
	result, text string
	want         api.Value
}

func checkReturned(t *testing.T, l []returned) {
	t.Helper()
	for _, x := range l {
		h, m := started(t, 60, x.result, x.text)
		m.Run(1000)
		checkEnd(t, m, api.Ending{Way: api.EndValue, Value: x.want})
		if t.Failed() {
			t.Fatalf("%s: %v", x.text, h.Cells())
		}
	}
}

// P10.2: numbers, modulo 2^64.
func TestNumbers(t *testing.T) {
	for _, x := range []struct {
		op, a, b string
		want     int64
	}{
		{"add", "2", "3", 5}, {"add", greatest, "1", math.MinInt64}, {"add", least, least, 0}, {"add", least, "-1", math.MaxInt64},
		{"sub", "2", "3", -1}, {"sub", least, "1", math.MaxInt64}, {"sub", "0", least, math.MinInt64}, {"sub", greatest, "-1", math.MinInt64},
		{"mul", "-4", "3", -12}, {"mul", "4294967296", "4294967296", 0}, {"mul", greatest, "2", -2}, {"mul", least, "-1", math.MinInt64}, {"mul", "4294967297", "4294967297", 8589934593},
		{"div", "7", "2", 3}, {"div", "-7", "2", -3}, {"div", "7", "-2", -3}, {"div", "-7", "-2", 3}, {"div", "1", "2", 0}, {"div", "-1", "2", 0}, {"div", least, "-1", math.MinInt64}, {"div", least, "1", math.MinInt64}, {"div", "0", "-5", 0}, {"div", greatest, "-1", -math.MaxInt64},
		{"rem", "7", "2", 1}, {"rem", "-7", "2", -1}, {"rem", "7", "-2", 1}, {"rem", "-7", "-2", -1}, {"rem", "6", "3", 0}, {"rem", least, "-1", 0}, {"rem", least, "10", -8}, {"rem", "5", least, 5}, {"rem", "0", "3", 0},
		{"and", "12", "10", 8}, {"and", "-1", "5", 5}, {"and", "-8", "-6", -8}, {"and", least, greatest, 0},
		{"or", "12", "10", 14}, {"or", "-8", "1", -7}, {"or", least, greatest, -1},
		{"xor", "12", "10", 6}, {"xor", "-1", "5", -6}, {"xor", "6", "3", 5}, {"xor", least, "-1", math.MaxInt64},
		{"shl", "1", "3", 8}, {"shl", "1", "63", math.MinInt64}, {"shl", "1", "64", 1}, {"shl", "1", "65", 2}, {"shl", "3", "63", math.MinInt64}, {"shl", "1", "-1", math.MinInt64}, {"shl", "1", "-64", 1}, {"shl", "-3", "1", -6}, {"shl", "5", least, 5}, {"shl", "1", "4294967297", 2},
		{"shr", "8", "3", 1}, {"shr", "-8", "1", -4}, {"shr", "-1", "63", -1}, {"shr", "-7", "1", -4}, {"shr", "7", "64", 7}, {"shr", "7", "65", 3}, {"shr", least, "-1", -1}, {"shr", greatest, "62", 1}, {"shr", "-9", "0", -9}, {"shr", "8", "4294967296", 8},
	} {
		checkReturned(t, []returned{{"int", "int " + x.a + "; int " + x.b + "; " + x.op + "; return", num(x.want)}})
	}
	checkReturned(t, []returned{
		{"int", "int 5; neg; return", num(-5)}, {"int", "int -5; neg; return", num(5)}, {"int", "int 0; neg; return", num(0)}, {"int", "int " + least + "; neg; return", num(math.MinInt64)},
		{"int", "int " + least + "; return", num(math.MinInt64)}, {"int", "int 6; int 3; xor; neg; return", num(-5)},
	})
}

// P10.2: bools.
func TestBools(t *testing.T) {
	for _, x := range []struct {
		text string
		want int64
	}{
		{"true", 1}, {"false", 0}, {"true; not", 0}, {"false; not", 1}, {"true; true; both", 1}, {"true; false; both", 0}, {"false; true; both", 0}, {"false; false; both", 0},
		{"int 1; int 2; less", 1}, {"int 2; int 1; less", 0}, {"int 1; int 1; less", 0}, {"int -1; int 0; less", 1}, {"int " + least + "; int " + greatest + "; less", 1}, {"int " + greatest + "; int " + least + "; less", 0},
		{"int 1; int 1; same", 1}, {"int 1; int 2; same", 0}, {"int 1; int -1; same", 0}, {"int 0; int 4294967296; same", 0}, {"int " + least + "; int " + least + "; same", 1},
		{"null; null; equal", 1}, {"load 0; load 0; equal", 1}, {"load 0; null; equal", 0}, {"null; load 0; equal", 0}, {"new B; new B; equal", 0}, {"load 0; new B; equal", 0}, {"new B; dup; equal", 1}, {"int 0; array A; dup; equal", 1}, {"int 0; array A; int 0; array A; equal", 0}, {"load 0; int 0; array A; equal", 0}, {"load 0; get A.next; null; equal", 1},
	} {
		checkReturned(t, []returned{{"bool", x.text + "; return", flag(x.want)}})
	}
}

// P10.2: is tests for a subkind, but not null; cast lets null pass.
func TestKindsOfReferences(t *testing.T) {
	for _, x := range []struct {
		object, kind string
		is           int64
	}{
		{"new B", "B", 1}, {"new B", "A", 1}, {"new B", "Object", 1}, {"new B", "I", 1}, {"new B", "J", 0}, {"new B", "C", 0}, {"new B", "D", 0}, {"new B", "A[]", 0}, {"new A", "B", 0}, {"new D", "B", 1}, {"new D", "J", 1}, {"new D", "I", 1}, {"new U", "T", 1}, {"new C", "I", 0}, {"new ZeroFault", "Fault", 1}, {"new Fault", "ZeroFault", 0},
		{"int 1; array B", "B[]", 1}, {"int 1; array B", "A[]", 0}, {"int 1; array B", "Object", 1}, {"int 1; array B", "Object[]", 0}, {"int 1; array B", "B", 0}, {"int 1; array B", "B[][]", 0}, {"int 1; array B[][]", "B[][][]", 1}, {"int 0; array int", "int[]", 1}, {"int 0; array int", "bool[]", 0}, {"int 0; array int", "I", 0},
		{"load 0", "B", 1}, {"load 0; cast A", "B", 1}, {"load 0; cast I", "D", 0},
	} {
		checkReturned(t, []returned{{"bool", x.object + "; is " + x.kind + "; return", flag(x.is)}})
		if x.is == 1 {
			checkReturned(t, []returned{{"bool", x.object + "; dup; cast " + x.kind + "; equal; return", flag(1)}})
			continue
		}
		h, m := started(t, 60, "", x.object+"; cast "+x.kind+"; pop; return")
		m.Run(99)
		checkThrown(t, h, m, "CastFault")
	}
	for _, kind := range strings.Fields("A B I Object Fault ZeroFault A[] int[] text[][][]") {
		checkReturned(t, []returned{
			{"bool", "null; is " + kind + "; return", flag(0)},
			{"bool", "null; cast " + kind + "; null; equal; return", flag(1)},
			{"bool", "null; store 1; load 1; cast " + kind + "; is " + kind + "; return", flag(0)},
		})
	}
}

// P10.2: texts.
func TestTexts(t *testing.T) {
	w := strings.Repeat("é", 32)
	checkReturned(t, []returned{
		{"text", "word ab; return", text("ab")}, {"text", "word ; return", text("")}, {"text", "word a b  c; return", text("a b  c")}, {"text", "word " + w + "; return", text(w)},
		{"text", "word ab; word c; join; return", text("abc")}, {"text", "word c; word ab; join; return", text("cab")}, {"text", "word ; word ; join; return", text("")}, {"text", "word " + w + "; word x; join; return", text(w + "x")},
	})
	// A text of 64 bytes is doubled some times: 4096 bytes may be, one more may not.
	double := strings.Repeat("; dup; join", 6)
	checkReturned(t, []returned{
		{"text", "word " + w + double + "; return", text(strings.Repeat(w, 64))},
		{"text", "word " + w + double + "; word ; join; return", text(strings.Repeat(w, 64))},
		{"text", "word ; word " + w + double + "; join; return", text(strings.Repeat(w, 64))},
	})
	for _, s := range []string{"word " + w + double + "; word x; join", "word x; word " + w + double + "; join", "word " + w + double + "; dup; join"} {
		h, m := started(t, 60, "text", s+"; return")
		m.Run(99)
		checkThrown(t, h, m, "RoomFault")
	}
	long := text(strings.Repeat("x", 4095))
	for n, s := range []string{"a", "", "é"} {
		h := objects(t)
		h.Set(1, 2, text(s))
		m := begin(t, h, "I", "see", ref(1), long)
		m.Run(9)
		checkEnd(t, m, api.Ending{Way: api.EndValue, Value: text(long.S + "b")})
		m = begin(t, h, "I", "see", ref(1), text(long.S+"x"))
		m.Run(9)
		if checkThrown(t, h, m, "RoomFault"); h.Len() != 8 {
			t.Error(n, h.Len())
		}
	}
}

// P10.2: the stack and the locals.
func TestStackAndLocals(t *testing.T) {
	checkReturned(t, []returned{
		{"int", "int 1; int 2; pop; return", num(1)}, {"int", "int 1; int 2; return", num(2)}, {"int", "int 3; dup; mul; return", num(9)}, {"int", "int 1; int 2; swap; return", num(1)}, {"int", "int 1; int 2; swap; sub; return", num(1)}, {"int", "int 9; int 1; int 2; swap; pop; sub; return", num(7)},
		{"int", "int 4; store 1; int 5; store 2; int 6; store 3; load 2; return", num(5)}, {"int", "int 4; store 1; int 5; store 1; load 1; return", num(5)}, {"int", "int 4; store 0; load 0; return", num(4)}, {"text", "int 4; store 3; word a; store 3; load 3; return", text("a")},
		{"B", "load 0; cast B; return", ref(0)}, {"A", "null; return", null}, {"A", "null; store 1; load 1; return", null}, {"int[]", "int 3; array int; return", ref(1)},
		{"int", strings.Repeat("int 1; ", 24) + strings.Repeat("add; ", 23) + "return", num(24)},
	})
}

// P10.2: jumps.
func TestJumps(t *testing.T) {
	checkReturned(t, []returned{
		{"int", "jump 3; int 1; return; int 2; return", num(2)}, {"int", "true; branch 4; int 1; return; int 2; return", num(2)}, {"int", "false; branch 4; int 1; return; int 2; return", num(1)}, {"int", "jump 1; int 1; return", num(1)}, {"int", "true; branch 2; int 1; return", num(1)}, {"int", "jump 3; int 7; return; jump 1", num(7)},
	})
	_, m := started(t, 60, "int", "int 0; store 1; load 1; int 5; less; not; branch 14; load 1; out; load 1; int 1; add; store 1; jump 2; load 1; return")
	if n := m.Run(1000); n != 2+5*12+5+2 || !slices.Equal(m.Outs(), []int64{0, 1, 2, 3, 4}) {
		t.Error(n, m.Outs())
	}
	checkEnd(t, m, api.Ending{Way: api.EndValue, Value: num(5)})
	_, m = started(t, 60, "", "jump 0")
	if n := m.Run(100000); n != 100000 || m.Step() {
		t.Error(n)
	}
	checkEnd(t, m, api.Ending{})
}

// P10.2: fields and elements.
func TestObjects(t *testing.T) {
	checkReturned(t, []returned{
		{"int", "new A; get A.x; return", num(0)}, {"text", "new A; get A.s; return", text("")}, {"bool", "new A; get A.ok; return", flag(0)}, {"A", "new A; get A.next; return", null},
		{"int", "new A; dup; int 9; put A.x; get A.x; return", num(9)}, {"int", "new B; dup; int 9; put A.x; get B.x; return", num(9)}, {"int", "new B; dup; int 9; put B.y; get A.x; return", num(0)}, {"int", "new D; dup; int 9; put B.y; get D.y; return", num(9)},
		{"text", "new D; dup; word a; put A.s; get B.s; return", text("a")}, {"bool", "new A; dup; true; put A.ok; get A.ok; return", flag(1)}, {"A", "new A; dup; load 0; put A.next; get A.next; return", ref(0)}, {"A", "load 0; load 0; put A.next; load 0; get A.next; get A.next; return", ref(0)}, {"A", "load 0; dup; load 0; put A.next; dup; null; put A.next; get A.next; return", null},
		{"Object", "new A; dup; int 1; array int; put A.any; get A.any; return", ref(2)}, {"Object", "load 0; store 1; new A; store 2; load 2; load 1; put A.any; load 2; get A.any; return", ref(0)},
		{"int", "int 3; array int; int 2; at; return", num(0)}, {"int", "int 3; array int; store 1; load 1; int 2; int 8; set; load 1; int 2; at; return", num(8)}, {"int", "int 3; array int; store 1; load 1; int 2; int 8; set; load 1; int 1; at; return", num(0)}, {"int", "int 2; array int; store 1; load 1; int 0; int 8; set; load 1; int 0; at; return", num(8)},
		{"text", "int 1; array text; int 0; at; return", text("")}, {"bool", "int 1; array bool; int 0; at; return", flag(0)}, {"A", "int 1; array A; int 0; at; return", null}, {"int[]", "int 1; array int[]; int 0; at; return", null},
		{"int", "int 3; array int; size; return", num(3)}, {"int", "int 0; array A; size; return", num(0)}, {"int", "int 2; array A[]; dup; int 1; int 5; array A; set; int 1; at; size; return", num(5)}, {"int", "load 0; int 4; array A; put A.list; load 0; get A.list; size; return", num(4)},
		{"Bad", "new Bad; dup; int 3; put Bad.why; return", ref(1)}, {"text", "new Bad; dup; word w; put Fault.what; get Bad.what; return", text("w")},
	})
	h, m := started(t, 60, "", "new B; dup; int 7; put B.y; dup; int 8; put A.x; pop; int 2; array bool; int 1; true; set; return")
	m.Run(99)
	checkEnd(t, m, api.Ending{Way: api.EndValue})
	cells := h.Cells()
	if len(cells) != 3 || !slices.Equal(cells[1].Values, []api.Value{num(8), null, text(""), flag(0), null, null, num(7)}) || !slices.Equal(cells[2].Values, []api.Value{flag(0), flag(1)}) || cells[2].Kind != "bool[]" || h.Left() != 60-8-8-3 {
		t.Errorf("%v, %d left", cells, h.Left())
	}
}

// P10.2: calls.
func TestCalls(t *testing.T) {
	checkReturned(t, []returned{
		{"int", "load 0; call A.who; return", num(2)}, {"int", "new A; call A.who; return", num(1)}, {"int", "new C; call A.who; return", num(1)}, {"int", "new D; call A.who; return", num(2)}, {"int", "load 0; call A.who; new A; call A.who; int 10; mul; add; return", num(12)}, {"int", "new C; call C.who; return", num(1)}, {"int", "new D; call D.who; return", num(2)},
		{"A", "load 0; int 1; new C; word x; call A.id; return", ref(1)}, {"A", "load 0; int 1; null; word x; call A.id; return", null}, {"int", "int 9; load 0; int 1; load 0; word x; call A.id; pop; return", num(9)},
		{"text", "load 0; cast I; word a; call I.see; return", text("ab")}, {"text", "new D; word a; call I.see; return", text("ad")}, {"text", "new D; word a; call J.see; return", text("ad")}, {"text", "new D; word a; call B.see; return", text("ad")},
		{"int", "new U; call T.twice; return", num(42)}, {"int", "new U; call T.make; return", num(21)}, {"int", "int 3; load 0; call A.quiet; return", num(3)}, {"int", "load 0; int 4; true; call A.both; return", num(2)},
		{"", "int 3; return", null}, {"", "load 0; call A.quiet; return", null}, {"", "load 0; call A.who; return", null},
	})
}

// P10.2: the locals behind the arguments are not set when a call begins, and the locals of two calls have nothing in common.
func TestLocalsOfCalls(t *testing.T) {
	classes := zoo(t, method(t, "down(int)int 4", "load 1; store 3; load 1; int 1; less; branch 16; load 0; load 1; int 1; sub; call A.down; load 3; add; store 2; load 2; return; int 0; return"))
	h := empty(t, accepted(t, classes), 60)
	h.Object("A")
	m := begin(t, h, "A", "down", ref(0), num(4))
	for !m.Step() {
		_, locals := m.Kinds()
		_, _, at := m.Where()
		want := []string{"A", "int", "", ""}
		if at > 1 {
			want[3] = "int"
		}
		if at > 13 && at < 16 {
			want[2] = "int"
		}
		if !slices.Equal(locals, want) {
			t.Errorf("at %d: %q, want %q", at, locals, want)
		}
	}
	checkEnd(t, m, api.Ending{Way: api.EndValue, Value: num(4 + 3 + 2 + 1)})
}
