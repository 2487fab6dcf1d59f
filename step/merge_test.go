package step_test

import (
	"reflect"
	"slices"
	"strings"
	"testing"

	"squinch/api"
	"squinch/hier"
	"squinch/step"
)

func checkMerge(t *testing.T, h *hier.Table, a, b, want api.Shape, wantE api.Errno) {
	t.Helper()
	got, e := step.Merge(h, a, b)
	if !equal(got, want) || e != wantE {
		t.Errorf("Merge(%+v, %+v) = %+v, %d, want %+v, %d", a, b, got, e, want, wantE)
	}
	if e != api.OK && !reflect.DeepEqual(got, api.Shape{}) {
		t.Errorf("Merge(%+v, %+v): error %d with %#v", a, b, e, got)
	}
}

func unseen(s api.Shape) api.Shape {
	s.Seen = false
	return s
}

// P7.3: a shape that is not Seen adds nothing, whatever is in it, and the other one need not be right.
func TestMergeOfShapesThatAreNotSeen(t *testing.T) {
	h := zoo(t)
	shapes := []api.Shape{{}, shape("", ""), shape("int A", "B -"), shape("A", "B - -"), shape("Z null[] -", "Z"), shape(strings.Repeat("int ", 30), "")}
	for _, a := range shapes {
		for _, b := range shapes {
			checkMerge(t, h, unseen(a), b, b, api.OK)
			checkMerge(t, h, unseen(a), unseen(b), unseen(b), api.OK)
			if a.Seen {
				checkMerge(t, h, a, unseen(b), a, api.OK)
			}
		}
	}
}

// P7.3: joins of stacks and of locals.
func TestMerge(t *testing.T) {
	h := zoo(t)
	for _, x := range []struct{ stackA, localsA, stackB, localsB, stack, locals string }{
		{"", "", "", "", "", ""},
		{"null", "", "text[]", "", "text[]", ""},
		{"text[]", "", "null", "", "text[]", ""},
		{"null", "null", "null", "null", "null", "null"},
		{"int bool text", "int bool text", "int bool text", "int bool text", "int bool text", "int bool text"},
		{"B C", "B E", "C B", "C E", "A A", "A E"},
		{"E B A[]", "E B A[]", "B C B[]", "B[] I A", "A A Object", "Object I Object"},
		{"I J F", "J I B", "J B ZeroFault", "E F E", "I J Fault", "Object Object A"},
		{"A", "- A - A int", "A", "A - - A int", "A", "- - - A int"},
		{"", "int bool text int A null A[]", "", "bool text int A int int int", "", "- - - - - - -"},
		{"A", "Z Z[] null[] A[][][][]", "A", "Z Z[] null[] A[][][][]", "A", "- - - -"},
		{"int int[]", "A", "int int[][]", "int[]", "int Object", "Object"},
	} {
		checkMerge(t, h, shape(x.stackA, x.localsA), shape(x.stackB, x.localsB), shape(x.stack, x.locals), api.OK)
	}
	many := strings.Repeat("B ", 1<<10)
	checkMerge(t, h, shape(many, many+"int"), shape(strings.Repeat("C ", 1<<10), many+"int"), shape(strings.Repeat("A ", 1<<10), many+"int"), api.OK)
}

// P7.3: all pairs of kinds, by the joins of chapter 6.
func TestMergeOfAllPairs(t *testing.T) {
	h := zoo(t)
	kinds := append(h.Names(), "int", "bool", "text", "null", "A[]", "I[][]", "int[]", "Z", "Z[]")
	for _, a := range kinds {
		for _, b := range kinds {
			join := h.Join(a, b)
			if join == "" {
				checkMerge(t, h, shape(a, ""), shape(b, ""), api.Shape{}, api.ErrVerifyMerge)
				checkMerge(t, h, shape("", a), shape("", b), shape("", "-"), api.OK)
				continue
			}
			checkMerge(t, h, shape("int "+a, a+" A"), shape("int "+b, b+" A"), shape("int "+join, join+" A"), api.OK)
		}
	}
}

// P7.3: what has no join on the stack, and what has not the same number.
func TestMergeErrors(t *testing.T) {
	h := zoo(t)
	for _, x := range []struct{ stackA, localsA, stackB, localsB string }{
		{"int", "", "bool", ""}, {"int", "", "A", ""}, {"A", "", "int", ""}, {"text", "", "null", ""}, {"null", "", "int", ""}, {"int", "", "int[]", ""},
		{"int A B", "", "int A text", ""}, {"int A B", "", "text A B", ""}, {"A int B", "", "A B B", ""},
		{"Z", "", "Z", ""}, {"Z", "", "A", ""}, {"A", "", "Z[]", ""}, {"null[]", "", "null[]", ""}, {"null", "", "Z", ""}, {"int[][][][]", "", "int[][][][]", ""},
		{"", "", "A", ""}, {"A", "", "", ""}, {"A B", "", "A", ""}, {"A", "", "A A A", ""},
		{"", "A", "", ""}, {"", "", "", "A"}, {"A", "A -", "A", "A"}, {"A", "A", "A", "A - -"}, {"", "-", "", ""}, {"A", "A", "", "A A"},
	} {
		checkMerge(t, h, shape(x.stackA, x.localsA), shape(x.stackB, x.localsB), api.Shape{}, api.ErrVerifyMerge)
	}
	// A kind on the stack that is empty does not exist, and has no join.
	empty := api.Shape{Seen: true, Stack: []string{""}}
	checkMerge(t, h, empty, empty, api.Shape{}, api.ErrVerifyMerge)
	checkMerge(t, h, empty, shape("A", ""), api.Shape{}, api.ErrVerifyMerge)
	checkMerge(t, h, shape("A", ""), empty, api.Shape{}, api.ErrVerifyMerge)
}

// P7.3
func TestSame(t *testing.T) {
	shapes := []api.Shape{
		{}, {Seen: true}, shape("A", ""), shape("B", ""), shape("", "A"), shape("A", "A"), shape("A A", ""), shape("", "A A"), shape("", "-"), shape("", "- -"),
		shape("", "A -"), shape("", "- A"), shape("A B", "int"), shape("B A", "int"), shape("A", "B int"), shape("Z", "Z"), shape("a", ""), shape("A[]", ""),
		{Seen: true, Stack: []string{""}}, {Seen: true, Stack: []string{"", ""}}, {Stack: []string{""}}, {Stack: []string{"A"}}, {Locals: []string{"A"}}, {Locals: []string{""}},
	}
	for i, a := range shapes {
		for j, b := range shapes {
			b = api.Shape{Seen: b.Seen, Stack: slices.Clone(b.Stack), Locals: slices.Clone(b.Locals)}
			if step.Same(a, b) != (i == j) {
				t.Errorf("Same(%+v, %+v) = %v", a, b, i != j)
			}
		}
	}
	if !step.Same(api.Shape{Stack: []string{}, Locals: nil}, api.Shape{Locals: []string{}}) {
		t.Error("nil and empty lists are not the same")
	}
	roomy := append(make([]string, 0, 10), "A")
	if !step.Same(api.Shape{Stack: roomy}, api.Shape{Stack: []string{"A"}}) {
		t.Error("lists of different capacity are not the same")
	}
}
