package verify_test

import (
	"math"
	"strings"
	"testing"

	"squinch/api"
	"squinch/verify"
)

func caught(from, to, at int, class string) api.Catch {
	return api.Catch{From: from, To: to, At: at, Class: class}
}

// P8.1: what is known where something is caught, and of the instructions behind it.
func TestCatches(t *testing.T) {
	for _, x := range []struct {
		sign, code, want string
		catches          []api.Catch
	}{
		{"m() 1", "return; pop; return", "|A; Fault|A; |A", []api.Catch{caught(0, 1, 1, "Fault")}},
		{"m() 1", "true; pop; return; get Bad.why; pop; return", "|A; bool|A; |A; Worse|A; A|A; |A", []api.Catch{caught(0, 2, 3, "Worse")}},
		// The stack is only what is thrown, whatever was on it.
		{"m() 1", "int 1; int 2; div; pop; return; throw", "|A; int|A; int int|A; int|A; |A; ZeroFault|A", []api.Catch{caught(2, 3, 5, "ZeroFault")}},
		// Nothing is caught: the range has no instruction, or none that is reached.
		{"m() 1", "return; add", "|A; ?", []api.Catch{caught(0, 0, 1, "Fault"), caught(1, 1, 1, "Fault"), caught(1, 0, 1, "Fault"), caught(1, 2, 1, "Fault"), caught(-5, 0, 1, "Fault"), caught(2, 9, 1, "Fault"), caught(math.MaxInt, math.MinInt, 1, "Fault"), caught(math.MinInt, -1, 1, "Fault"), caught(7, 0, 1, "Fault")}},
		// A range may be longer than the method.
		{"m() 1", "return; throw", "|A; Fault|A", []api.Catch{caught(math.MinInt, math.MaxInt, 1, "Fault")}},
		{"m() 1", "return; throw", "|A; Fault|A", []api.Catch{caught(-1, 1, 1, "Fault")}},
		// Two catches of one instruction; joins where they are the same, in whichever order.
		{"m() 1", "return; throw; pop; return", "|A; Worse|A; ZeroFault|A; |A", []api.Catch{caught(0, 1, 1, "Worse"), caught(0, 1, 2, "ZeroFault")}},
		{"m() 1", "return; throw", "|A; Fault|A", []api.Catch{caught(0, 1, 1, "Worse"), caught(0, 1, 1, "ZeroFault")}},
		{"m() 1", "return; throw", "|A; Bad|A", []api.Catch{caught(0, 1, 1, "Worse"), caught(0, 1, 1, "Bad")}},
		{"m() 1", "return; throw", "|A; Bad|A", []api.Catch{caught(0, 1, 1, "Bad"), caught(0, 1, 1, "Worse")}},
		// Where something is caught may be in the range, or be come to in another way.
		{"m() 1", "return; throw", "|A; Fault|A", []api.Catch{caught(0, 1, 1, "Worse"), caught(1, 2, 1, "Fault")}},
		{"m() 1", "return; pop; jump 0", "|A; Fault|A; |A", []api.Catch{caught(0, 3, 1, "Fault")}},
		{"m() 1", "load 0; pop; return", "|A; Object|A; |A", []api.Catch{caught(0, 1, 1, "Fault")}},
		{"m() 1", "new Worse; throw", "|A; Fault|A", []api.Catch{caught(1, 2, 1, "Fault")}},
		// What is known of the locals is that from before the instruction.
		{"m() 2", "int 1; store 1; return; throw", "|A -; int|A -; |A int; Fault|A -", []api.Catch{caught(1, 2, 3, "Fault")}},
		{"m() 2", "int 1; store 1; return; throw", "|A -; int|A -; |A int; Fault|A int", []api.Catch{caught(2, 3, 3, "Fault")}},
		{"m() 2", "new B; store 1; new C; store 1; return; throw", "|A -; B|A -; |A B; C|A B; |A C; Fault|A A", []api.Catch{caught(3, 5, 5, "Fault")}},
		{"m() 2", "new B; store 1; new C; store 1; return; throw", "|A -; B|A -; |A B; C|A B; |A C; Fault|A B", []api.Catch{caught(3, 4, 5, "Fault")}},
		{"m() 2", "return; store 1; return; throw", "|A -; Bad|A -; |A Bad; Fault|A Bad", []api.Catch{caught(0, 1, 1, "Bad"), caught(2, 3, 3, "Fault")}},
	} {
		accepts(t, "A", method(t, x.sign, x.code, x.catches...), x.want)
	}
}

// P8.1: all ranges, in a method that has other locals before each instruction.
func TestRangesOfCatches(t *testing.T) {
	const last = 6
	m := method(t, "m() 4", "int 1; store 1; int 2; store 2; int 3; store 3; return; pop; return")
	locals := []string{"A - - -", "A - - -", "A int - -", "A int - -", "A int int -", "A int int -", "A int int int"}
	for from := -2; from < len(m.Code)+2; from++ {
		for to := -2; to < len(m.Code)+3; to++ {
			m.Catches = []api.Catch{caught(from, to, 7, "Fault")}
			want := "?"
			if first := max(from, 0); first < to && first <= last {
				// What is set before the first instruction of the range is set before all of them.
				want = "Fault|" + locals[first]
			}
			l, at, e := verify.Method(zoo(t), "A", m)
			if e != api.OK || at != 0 || len(l) != 9 || show(l[7:8]) != want {
				t.Errorf("from %d to %d: %s, %d, want %s", from, to, show(l), e, want)
			}
		}
	}
}

// P8.1: the errors of step 2, and that they come after those of step 1 and before those of the steps 3 and 4.
func TestErrorsOfCatches(t *testing.T) {
	for _, x := range []struct {
		code    string
		at      int
		e       api.Errno
		catches []api.Catch
	}{
		{"return", 0, api.ErrVerifyMerge, []api.Catch{caught(0, 1, 0, "Fault")}},
		{"true; pop; return", 1, api.ErrVerifyMerge, []api.Catch{caught(1, 2, 1, "Fault")}},
		{"true; pop; return", 2, api.ErrVerifyMerge, []api.Catch{caught(2, 3, 1, "Fault")}},
		{"return; throw", 0, api.ErrVerifyMerge, []api.Catch{caught(0, 1, 1, "Fault"), caught(0, 1, 0, "Bad")}},
		{"load 0; pop; return; throw", 1, api.ErrVerifyMerge, []api.Catch{caught(0, 4, 3, "Fault"), caught(1, 2, 0, "Bad")}},
		// What is known there first is wrong for what comes later.
		{"load 0; pop; null; pop; return", 3, api.ErrVerifyMerge, []api.Catch{caught(3, 4, 4, "Fault")}},
		{"true; pop; return; pop; jump 3", 4, api.ErrVerifyMerge, []api.Catch{caught(1, 2, 3, "Fault")}},
		// Step 1 is before step 2.
		{"null", 0, api.ErrVerifyFall, []api.Catch{caught(0, 1, 0, "Fault")}},
		{"jump 1", 0, api.ErrVerifyJump, []api.Catch{caught(0, 1, 0, "Fault")}},
		// Step 2 is before step 3.
		{"add; return", 0, api.ErrVerifyMerge, []api.Catch{caught(0, 1, 0, "Fault")}},
		{"new Z; return", 0, api.ErrVerifyMerge, []api.Catch{caught(0, 1, 0, "Fault")}},
		{"add; return", 0, api.ErrVerifyStack, []api.Catch{caught(0, 1, 1, "Fault")}},
		{"add; nop; return", 0, api.ErrVerifyStack, []api.Catch{caught(0, 1, 1, "Fault")}},
		// Step 2 is before step 4.
		{"true; return", 0, api.ErrVerifyMerge, []api.Catch{caught(0, 1, 1, "Fault")}},
		{"load 0; get A.next; return", 1, api.ErrVerifyKind, []api.Catch{caught(0, 1, 1, "Fault")}},
		// The instructions that catch are looked at.
		{"return; get A.next; return", 1, api.ErrVerifyKind, []api.Catch{caught(0, 1, 1, "Fault")}},
		{"return; get Bad.why; return", 1, api.ErrVerifyKind, []api.Catch{caught(0, 1, 1, "Bad"), caught(0, 1, 1, "Fault")}},
		{"return; pop; pop; return", 2, api.ErrVerifyStack, []api.Catch{caught(0, 1, 1, "Fault")}},
		{"return; load 1; return", 1, api.ErrVerifyLocal, []api.Catch{caught(0, 1, 1, "Fault")}},
		{"int 1; store 1; load 1; pop; return; load 1; return", 5, api.ErrVerifyLocal, []api.Catch{caught(1, 3, 5, "Fault")}},
		{"return; pop", 1, api.ErrVerifyFall, []api.Catch{caught(0, 1, 1, "Fault")}},
		// They have their turn by their index.
		{"jump 2; pop; add; return", 2, api.ErrVerifyStack, []api.Catch{caught(0, 1, 3, "Fault")}},
		{"jump 3; get A.x; return; add; return", 1, api.ErrVerifyKind, []api.Catch{caught(0, 1, 1, "Fault")}},
		{"jump 3; get A.x; return; add; return", 3, api.ErrVerifyStack, []api.Catch{caught(2, 3, 1, "Fault")}},
	} {
		rejects(t, "A", method(t, "m() 2", x.code, x.catches...), x.at, x.e)
	}
}

// P8.1 says nothing of a catch whose At is not the index of an instruction. It is no catch of a valid class, and P8.3 could not hold for it.
func TestCatchesThatLeadNowhere(t *testing.T) {
	for _, at := range []int{-1, 3, 4, 1 << 32, math.MinInt, math.MaxInt} {
		rejects(t, "A", method(t, "m() 1", "true; pop; return", caught(0, 3, at, "Fault")), 0, api.ErrVerifyJump)
		rejects(t, "A", method(t, "m() 1", "true; pop; return", caught(2, 3, at, "Fault")), 2, api.ErrVerifyJump)
		rejects(t, "A", method(t, "m() 1", "true; pop; return; throw", caught(0, 1, 0, "Fault"), caught(0, 1, at, "Fault")), 0, api.ErrVerifyMerge)
		accepts(t, "A", method(t, "m() 1", "return; pop; return", caught(1, 3, at, "Fault"), caught(3, 9, at, "Fault"), caught(0, 0, at, "Fault")), "|A; ?; ?")
	}
}

// P8.1: as many catches as a method may have, and more.
func TestManyCatches(t *testing.T) {
	for _, n := range []int{api.MaxParts, 1000} {
		m := method(t, "m() 1", "true; pop; return"+strings.Repeat("; throw", n))
		want := "|A; bool|A; |A"
		for k := range n {
			m.Catches = append(m.Catches, caught(0, 2, 3+k, "Bad"))
			want += "; Bad|A"
		}
		accepts(t, "A", m, want)
		m.Code[2+n].Op = "not"
		rejects(t, "A", m, 2+n, api.ErrVerifyFall)
	}
}
