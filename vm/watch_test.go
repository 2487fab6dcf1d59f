package vm_test

import (
	"fmt"
	"math"
	"slices"
	"strings"
	"testing"

	"squinch/api"
	"squinch/vm"
)

// look writes where a run is: class.method at an index, the number of calls, the kinds of the stack and of the locals.
func look(m *vm.Machine) string {
	class, name, at := m.Where()
	stack, locals := m.Kinds()
	return fmt.Sprintf("%s.%s %d %d [%s] %s", class, name, at, m.Deep(), show(stack), show(locals))
}

// P10.2: where a run is, before each of its instructions.
func TestWhere(t *testing.T) {
	_, m := started(t, 40, "int", "null; store 1; int 7; load 0; cast I; word x; call I.see; store 2; load 0; call A.bad; out; int 2; return; store 3; true; dup; pop; pop; int 1; array A; store 1; load 0; call A.quiet; int 3; return", caught(9, 10, 13, "ZeroFault"))
	want := strings.Split(strings.TrimSpace(`
A.m 0 1 [] B - - -
A.m 1 1 [null] B - - -
A.m 2 1 [] B null - -
A.m 3 1 [int] B null - -
A.m 4 1 [int B] B null - -
A.m 5 1 [int B] B null - -
A.m 6 1 [int B text] B null - -
B.see 0 2 [] B text
B.see 1 2 [text] B text
B.see 2 2 [text text] B text
B.see 3 2 [text] B text
A.m 7 1 [int text] B null - -
A.m 8 1 [int] B null text -
A.m 9 1 [int B] B null text -
A.bad 0 2 [] B
A.bad 1 2 [int] B
A.bad 2 2 [int int] B
A.m 13 1 [ZeroFault] B null text -
A.m 14 1 [] B null text ZeroFault
A.m 15 1 [bool] B null text ZeroFault
A.m 16 1 [bool bool] B null text ZeroFault
A.m 17 1 [bool] B null text ZeroFault
A.m 18 1 [] B null text ZeroFault
A.m 19 1 [int] B null text ZeroFault
A.m 20 1 [A[]] B null text ZeroFault
A.m 21 1 [] B A[] text ZeroFault
A.m 22 1 [B] B A[] text ZeroFault
A.quiet 0 2 [] B
A.quiet 1 2 [int] B
A.m 23 1 [] B A[] text ZeroFault
A.m 24 1 [int] B A[] text ZeroFault
`), "\n")
	for n, s := range want {
		if got := look(m); got != s {
			t.Fatalf("%d: %s, want %s", n, got, s)
		}
		checkEnd(t, m, api.Ending{})
		if ended := m.Step(); ended != (n == len(want)-1) {
			t.Fatalf("%d: ended: %v", n, ended)
		}
	}
	checkEnd(t, m, api.Ending{Way: api.EndValue, Value: num(3)})
}

// P10.2: Run calls Step, at most so many times, and not after the end.
func TestRun(t *testing.T) {
	const text = "int 1; out; load 0; call A.quiet; int 2; out; load 0; call A.bad; return"
	const all = 8 + 2 + 3
	for _, most := range []int{0, -1, math.MinInt, -1 << 32} {
		_, m := started(t, 40, "", text)
		if n := m.Run(most); n != 0 || look(m) != "A.m 0 1 [] B - - -" {
			t.Errorf("Run(%d): %d, %s", most, n, look(m))
		}
	}
	for _, most := range []int{all, all + 1, math.MaxInt, 1 << 32} {
		h, m := started(t, 40, "", text)
		if n := m.Run(most); n != all {
			t.Errorf("Run(%d): %d", most, n)
		}
		checkThrown(t, h, m, "ZeroFault")
	}
	for first := range all + 2 {
		_, a := started(t, 40, "", text)
		_, b := started(t, 40, "", text)
		n := a.Run(first)
		for range first {
			if ended := b.Step(); ended != (b.Deep() == 0) || ended && n < all {
				t.Errorf("after %d: %v, %d calls", n, ended, b.Deep())
			}
		}
		if n != min(first, all) || look(a) != look(b) || a.End() != b.End() || !slices.Equal(a.Outs(), b.Outs()) {
			t.Errorf("Run(%d): %d, %s, %v, %v, but step by step %s, %v, %v", first, n, look(a), a.End(), a.Outs(), look(b), b.End(), b.Outs())
		}
		if rest := a.Run(1000); n+rest != all {
			t.Errorf("Run(%d), then %d", first, rest)
		}
	}
}

// P10.2: the output so far, also after each way to end.
func TestOuts(t *testing.T) {
	for _, x := range []struct {
		text string
		way  int
	}{{"return", api.EndValue}, {"int 1; int 0; div; return", api.EndThrown}, {"int 30; array int; store 1; int 1; int 0; div; return", api.EndFull}, {"load 0; call A.m; return", api.EndDeep}} {
		_, m := started(t, 40, "", "int 5; out; int "+least+"; out; int 5; out; "+x.text)
		var want []int64
		for _, n := range []int64{5, math.MinInt64, 5} {
			m.Step()
			if !slices.Equal(m.Outs(), want) {
				t.Errorf("%v, want %v", m.Outs(), want)
			}
			m.Step()
			want = append(want, n)
			if !slices.Equal(m.Outs(), want) {
				t.Errorf("%v, want %v", m.Outs(), want)
			}
		}
		m.Run(1000)
		if x.way == api.EndDeep {
			want = slices.Repeat(want, api.MaxCalls)
		}
		if !slices.Equal(m.Outs(), want) || m.End().Way != x.way {
			t.Errorf("%v, want %v; %v", m.Outs(), want, m.End())
		}
	}
}

// Rules: results are new memory.
func TestResultsAreNew(t *testing.T) {
	_, m := started(t, 40, "", "int 5; out; int 6; out; int 1; true; int 7; out; return")
	m.Run(6)
	outs, before := m.Outs(), look(m)
	outs[0] = 9
	_ = append(outs[:1], 9)
	stack, locals := m.Kinds()
	stack[0], locals[0] = "Z", "Z"
	_, _ = append(stack, "Z", "Z"), append(locals, "Z")
	if look(m) != before {
		t.Errorf("%s became %s", before, look(m))
	}
	m.Run(2)
	if _ = append(outs, 9); !slices.Equal(m.Outs(), []int64{5, 6, 7}) || outs[0] != 9 || len(outs) != 2 {
		t.Error(m.Outs(), outs)
	}
}
