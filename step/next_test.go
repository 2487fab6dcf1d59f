package step_test

import (
	"math"
	"slices"
	"strings"
	"testing"

	"squinch/api"
	"squinch/code"
	"squinch/step"
)

func checkNext(t *testing.T, l []api.Instr, at int, want []int, ok bool) {
	t.Helper()
	if got, found := step.Next(l, at); !slices.Equal(got, want) || found != ok {
		t.Errorf("Next(%v, %d) = %v, %v, want %v, %v", l, at, got, found, want, ok)
	}
}

// P7.1: every operator, in the middle of a method and as its last instruction.
func TestNextOfEachOperator(t *testing.T) {
	for _, op := range append(code.Ops(), "", "nop", "Jump", "returns", "jump ", strings.Repeat("jump", 1<<10)) {
		l := []api.Instr{{Op: "pop"}, {Op: op, N: 3}, {Op: "pop"}, {Op: op, N: 0}}
		switch op {
		case "jump":
			checkNext(t, l, 1, []int{3}, true)
			checkNext(t, l, 3, []int{0}, true)
		case "branch":
			checkNext(t, l, 1, []int{2, 3}, true)
			checkNext(t, l, 3, nil, false)
		case "return", "throw":
			checkNext(t, l, 1, nil, true)
			checkNext(t, l, 3, nil, true)
		default:
			checkNext(t, l, 1, []int{2}, true)
			checkNext(t, l, 3, nil, false)
		}
	}
}

// P7.1: the next index comes first, then the target, also if they are the same or the target is before.
func TestOrderOfSuccessors(t *testing.T) {
	for n := range 5 {
		for at := range 4 {
			l := make([]api.Instr, 5)
			l[at] = api.Instr{Op: "branch", N: int64(n)}
			checkNext(t, l, at, []int{at + 1, n}, true)
			l[at].Op = "jump"
			checkNext(t, l, at, []int{n}, true)
		}
	}
}

// P7.1: an index that is not that of an instruction.
func TestNextOfNoInstruction(t *testing.T) {
	l := []api.Instr{{Op: "return"}, {Op: "return"}, {Op: "jump"}, {Op: "throw"}}
	for n := range 5 {
		for _, at := range []int{-1, n, n + 1, -n - 1, 1 << 32, -1 << 32, 1<<32 + 1, math.MaxInt, math.MinInt, math.MaxInt32, math.MinInt32} {
			checkNext(t, l[:n], at, nil, false)
			checkNext(t, slices.Clip(l[:n]), at, nil, false)
		}
	}
	checkNext(t, nil, 0, nil, false)
	checkNext(t, []api.Instr{}, 0, nil, false)
}

// P7.1: targets that are not indexes of instructions; those of other operators are none.
func TestTargetsThatDoNotExist(t *testing.T) {
	for _, n := range []int64{-1, 3, 4, -3, 1 << 16, 1 << 32, 1<<32 + 1, -1 << 32, 1 << 63 >> 1, 1<<62 + 1, math.MaxInt32, math.MaxInt64, math.MinInt64, math.MinInt64 + 1} {
		for at := range 3 {
			l := []api.Instr{{Op: "pop"}, {Op: "pop"}, {Op: "pop"}}
			l[at] = api.Instr{Op: "jump", N: n}
			checkNext(t, l, at, nil, false)
			l[at].Op = "branch"
			checkNext(t, l, at, nil, false)
			l[at].Op = "int"
			checkNext(t, l[:at+1], at, nil, false)
			if at < 2 {
				checkNext(t, l, at, []int{at + 1}, true)
			}
			l[at].Op = "return"
			checkNext(t, l, at, nil, true)
		}
	}
	// The last instruction has no next one, wherever its target is.
	checkNext(t, []api.Instr{{Op: "branch", N: 0}}, 0, nil, false)
	checkNext(t, []api.Instr{{Op: "jump", N: 0}}, 0, []int{0}, true)
	checkNext(t, []api.Instr{{Op: "return"}}, 0, nil, true)
}

// P7.1: a method may be longer than one that is valid.
func TestNextInLongCode(t *testing.T) {
	l := make([]api.Instr, 1<<16)
	l[0] = api.Instr{Op: "branch", N: 1<<16 - 1}
	checkNext(t, l, 0, []int{1, 1<<16 - 1}, true)
	checkNext(t, l, 1<<16-2, []int{1<<16 - 1}, true)
	checkNext(t, l, 1<<16-1, nil, false)
}

func checkBegin(t *testing.T, params string, locals int, want string) {
	t.Helper()
	m := api.Method{Name: "f", Params: strings.Fields(params), Result: "int", Locals: locals, Code: []api.Instr{{Op: "return"}}}
	if got := step.Begin("A", m); !equal(got, shape("", want)) {
		t.Errorf("Begin of %.60q with %d locals: %d of them, %v, want %.60q", params, locals, len(got.Locals), got.Seen, want)
	}
	if got := strings.Join(m.Params, " "); got != params {
		t.Errorf("Begin changed %q to %q", params, got)
	}
}

// P7.1: from no locals at all to more than there are parameters.
func TestBegin(t *testing.T) {
	checkBegin(t, "", 1, "A")
	checkBegin(t, "", 3, "A - -")
	checkBegin(t, "int B[] text", 6, "A int B[] text - -")
	checkBegin(t, "int B[] text", 5, "A int B[] text -")
	checkBegin(t, "int B[] text", 4, "A int B[] text")
	checkBegin(t, "int B[] text", 3, "A int B[]")
	checkBegin(t, "int B[] text", 2, "A int")
	checkBegin(t, "int B[] text", 1, "A")
	for _, n := range []int{0, -1, -4, math.MinInt32, math.MinInt} {
		checkBegin(t, "int B[] text", n, "")
		checkBegin(t, "", n, "")
	}
	checkBegin(t, "Z null nonsense", 64, "A Z null nonsense"+strings.Repeat(" -", 60))
	checkBegin(t, "", 1<<16, "A"+strings.Repeat(" -", 1<<16-1))
	checkBegin(t, "int"+strings.Repeat(" B", 1<<16), 1<<16, "A int"+strings.Repeat(" B", 1<<16-2))
}

// P7.1: whatever the class is called.
func TestBeginOfStrangeClasses(t *testing.T) {
	for _, s := range []string{"", "Z", "int", "A[]", "null", "\xff", strings.Repeat("A", 1<<16)} {
		if got := step.Begin(s, api.Method{Locals: 2}); !equal(got, api.Shape{Seen: true, Locals: []string{s, ""}}) {
			t.Errorf("Begin(%.50q) = %.50v", s, got)
		}
	}
	if got := step.Begin("A", api.Method{Abstract: true}); !equal(got, api.Shape{Seen: true}) {
		t.Errorf("Begin of an abstract method: %+v", got)
	}
}
