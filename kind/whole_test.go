package kind_test

import (
	"regexp"
	"strings"
	"testing"
	"unsafe"

	"squinch/api"
	"squinch/kind"
)

// allStrings calls visit with each string of up to most pieces.
func allStrings(pieces []string, most int, visit func(s string)) {
	var grow func(s string, left int)
	grow = func(s string, left int) {
		visit(s)
		for _, p := range pieces {
			if left > 0 {
				grow(s+p, left-1)
			}
		}
	}
	grow("", most)
}

// model tells what P3.1 says of a string by a second definition of names and kinds.
func model() func(s string) facts {
	name := regexp.MustCompile(`^[A-Za-z][A-Za-z0-9]{0,31}$`)
	class := regexp.MustCompile(`^[A-Z][A-Za-z0-9]{0,31}$`)
	right := regexp.MustCompile(`^(?:int|bool|text|[A-Z][A-Za-z0-9]{0,31})((?:\[\]){0,3})$`)
	return func(s string) facts {
		f := facts{name: name.MatchString(s), class: class.MatchString(s), plain: s == "int" || s == "bool" || s == "text"}
		m := right.FindStringSubmatch(s)
		if m == nil {
			return f
		}
		f.right, f.deep = true, len(m[1])/2
		if f.deep > 0 {
			f.elem = s[:len(s)-2]
		}
		if f.deep < 3 {
			f.of = s + "[]"
		}
		return f
	}
}

// P3.1: all short strings of telling pieces.
func TestAllShortStrings(t *testing.T) {
	want := model()
	pieces := []string{"A", "b", "7", "int", "[", "]", "[]", ".", " ", "é", "\xff"}
	allStrings(pieces, 5, func(s string) { check(t, s, want(s)) })
	ends := []string{"int", "bool", "text", "A", "[]", "[]", "[", "x"}
	allStrings(ends, 5, func(s string) { check(t, s, want(s)) })
}

// P3.1: all lengths about the limit, with what begins, ends and stands in the middle.
func TestAllLengths(t *testing.T) {
	want := model()
	for n := range 70 {
		for _, first := range []string{"", "A", "a", "1", "int", "é", "\xff", "[]"} {
			for _, end := range []string{"", "[]", "[][]", "[][][]", "[][][][]", "[", "é", "\xff", "."} {
				s := first + strings.Repeat("k", n) + end
				check(t, s, want(s))
			}
		}
	}
}

// P3.2: all short strings of telling pieces, told by a second definition of members.
func TestAllShortMembers(t *testing.T) {
	member := regexp.MustCompile(`^([A-Z][A-Za-z0-9]{0,31})\.([a-z][A-Za-z0-9]{0,31})$`)
	pieces := []string{"A", "b", "7", "int", "[]", ".", ".", " ", "é", "\xff"}
	allStrings(pieces, 5, func(s string) {
		if m := member.FindStringSubmatch(s); m != nil {
			checkParts(t, s, m[1], m[2])
		} else {
			checkNoMember(t, s)
		}
	})
}

// P3.3: arrays of a kind have elements of that kind, and are one deeper.
func TestElementsOfArraysOfAKind(t *testing.T) {
	found := 0
	checkKind := func(s string) {
		of, e := kind.Of(s)
		if e != api.OK {
			return
		}
		found++
		if !kind.Right(s) || !kind.Right(of) || kind.Elem(of) != s || kind.Deep(of) != kind.Deep(s)+1 {
			t.Errorf("arrays of %q are %q, their elements %q", s, of, kind.Elem(of))
		}
	}
	pieces := []string{"A", "b", "7", "int", "bool", "text", "[]", "["}
	allStrings(pieces, 5, checkKind)
	checkKind(long("A", 32))
	checkKind(long("A", 32) + "[][]")
	if found < 1000 {
		t.Errorf("only %d kinds have arrays", found)
	}
}

// P3.3: the elements of an array kind have a kind, and arrays of it have the array kind.
func TestArraysOfTheElementsOfAKind(t *testing.T) {
	found := 0
	checkArray := func(s string) {
		elem := kind.Elem(s)
		if elem == "" {
			return
		}
		found++
		of, e := kind.Of(elem)
		if !kind.Right(s) || !kind.Right(elem) || of != s || e != api.OK {
			t.Errorf("the elements of %q are %q, arrays of them %q, error %d", s, elem, of, e)
		}
	}
	pieces := []string{"A", "b", "7", "int", "bool", "text", "[]", "["}
	allStrings(pieces, 5, checkArray)
	checkArray(long("A", 32) + "[]")
	checkArray(long("A", 32) + "[][][]")
	if found < 300 {
		t.Errorf("only %d kinds have elements", found)
	}
}

// P3.3: from a kind through all arrays of it and back.
func TestUpAndDown(t *testing.T) {
	for _, base := range []string{"int", "bool", "text", "A", "Node", long("A", 32)} {
		s := base
		for deep := 1; deep <= 3; deep++ {
			of, e := kind.Of(s)
			if e != api.OK || kind.Deep(of) != deep {
				t.Fatalf("Of(%q) = %q, %d", s, of, e)
			}
			s = of
		}
		if of, e := kind.Of(s); of != "" || e != api.ErrKindForm {
			t.Errorf("Of(%q) = %q, %d", s, of, e)
		}
		for range 3 {
			s = kind.Elem(s)
		}
		if s != base || kind.Elem(s) != "" {
			t.Errorf("%q became %q, with elements %q", base, s, kind.Elem(s))
		}
	}
}

// P1: strings of any length and any bytes.
func TestLongStrings(t *testing.T) {
	for _, s := range []string{"A", "a", "1", "int", "[]", "[", "]", ".", "é", "\xff", "\x00"} {
		check(t, strings.Repeat(s, 1<<18), facts{})
		check(t, "A"+strings.Repeat(s, 1<<18), facts{})
	}
}

// shares reports whether a string lies in the memory of another.
func shares(part, whole string) bool {
	for i := range len(whole) {
		if unsafe.StringData(part) == unsafe.StringData(whole[i:]) {
			return true
		}
	}
	return false
}

// The rule that results are newly allocated.
func TestResultsAreNew(t *testing.T) {
	array, member := "Node[][]", "Node.next"
	of, _ := kind.Of(array)
	class, name, _ := kind.Parts(member)
	if shares(of, array) || shares(kind.Elem(array), array) || shares(class, member) || shares(name, member) {
		t.Error("a result shares the memory of an argument")
	}
}
