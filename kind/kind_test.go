package kind_test

import (
	"strings"
	"testing"
	"unicode"

	"squinch/api"
	"squinch/kind"
)

// long returns a name of n bytes that begins with a given letter.
func long(first string, n int) string { return first + strings.Repeat("z", n-len(first)) }

// facts is what P3.1 says of one string.
type facts struct {
	right, name, plain, class bool
	elem                      string
	deep                      int
	of                        string
}

func check(t *testing.T, s string, want facts) {
	t.Helper()
	of, e := kind.Of(s)
	got := facts{kind.Right(s), kind.Name(s), kind.Plain(s), kind.Class(s), kind.Elem(s), kind.Deep(s), of}
	if got != want {
		t.Errorf("%.50q is %#.50v, want %#.50v", s, got, want)
	}
	if wrong := want.of == ""; wrong != (e == api.ErrKindForm) || !wrong && e != api.OK {
		t.Errorf("Of(%.50q): error %d", s, e)
	}
}

// P3.1
func TestPlainKinds(t *testing.T) {
	for _, s := range []string{"int", "bool", "text"} {
		check(t, s, facts{right: true, name: true, plain: true, of: s + "[]"})
	}
}

// P3.1
func TestClassNames(t *testing.T) {
	for _, s := range []string{
		"A", "Z", "Node", "NODE", "N0", "N9", "N1a2", "AzZa09", "Int", "INT", "Bool", "Text", "Null",
		long("A", 31), long("A", 32), long("Z0", 32),
	} {
		check(t, s, facts{right: true, name: true, class: true, of: s + "[]"})
	}
}

// P3.1
func TestMemberNamesAreNoKinds(t *testing.T) {
	for _, s := range []string{
		"a", "z", "node", "next2", "aZ09", "i", "in", "int1", "ints", "iNT", "integer", "boolean", "string", "void", "null", "self",
		long("a", 31), long("a", 32), long("int", 32),
	} {
		check(t, s, facts{name: true})
	}
}

// P3.1: arrays are neither plain nor classes nor names, whatever their elements are.
func TestArrayKinds(t *testing.T) {
	for _, base := range []string{"int", "bool", "text", "A", "Node", "Int", long("A", 32)} {
		check(t, base+"[]", facts{right: true, elem: base, deep: 1, of: base + "[][]"})
		check(t, base+"[][]", facts{right: true, elem: base + "[]", deep: 2, of: base + "[][][]"})
		check(t, base+"[][][]", facts{right: true, elem: base + "[][]", deep: 3})
	}
}

// P3.1: one array more than there may be, and many more.
func TestTooDeep(t *testing.T) {
	for _, base := range []string{"int", "bool", "text", "A", "Node", long("A", 32)} {
		for _, deep := range []int{4, 5, 6, 7, 8, 100, 1 << 16} {
			check(t, base+strings.Repeat("[]", deep), facts{})
		}
	}
}

// P3.1
func TestEmpty(t *testing.T) { check(t, "", facts{}) }

// P3.1
func TestTooLong(t *testing.T) {
	for _, first := range []string{"A", "a", "int", "Z9", "[]"} {
		for _, n := range []int{33, 34, 64, 256, 288, 1 << 20} {
			check(t, long(first, n), facts{})
			check(t, long(first, n)+"[]", facts{})
		}
	}
	// The limit counts the bytes of the class, not those of the array kind.
	check(t, long("A", 31)+"[]", facts{right: true, elem: long("A", 31), deep: 1, of: long("A", 31) + "[][]"})
	check(t, long("A", 33)+"[][][]", facts{})
}

// P3.1
func TestDigitsDoNotBegin(t *testing.T) {
	for _, s := range []string{"0", "9", "1A", "1a", "0int", "7", "42", long("1", 32)} {
		check(t, s, facts{})
		check(t, s+"[]", facts{})
	}
}

// P3.1: brackets that do not stand in pairs behind a kind.
func TestBrackets(t *testing.T) {
	for _, s := range []string{
		"[]", "[][]", "[][][]", "[][][][]", "[", "]", "][", "[]]", "[[]", "[[]]",
		"int[", "int]", "int][", "int[[]]", "int[]]", "int[[]", "int[][", "int[][]]", "int[][][", "int[]][]",
		"Node[", "Node]", "Node[]]", "Node[[]", "Node[][", "Node[1]", "Node[ ]", "Node[]x", "Node []", "Node[] ", " Node[]", "Node[] []",
		"[]int", "[]Node", "[]int[]", "[int]", "No[]de", "No[]de[]", "int()", "int{}", "int<>", "int［］",
		"node[]", "void[]", "node[][][]", "ints[]", "1[]", "a[]",
	} {
		check(t, s, facts{})
	}
}

// P3.1: kinds beside which something stands.
func TestOtherLettersAround(t *testing.T) {
	for _, base := range []string{"int", "Node", "Node[]"} {
		for _, s := range []string{" ", "\n", "\t", "\r", "\x00", ".", ",", "_", "-", "+", "$", "*", "/", "'", "\"", "é", "\u00a0", "\ufeff", "\u0301", "\xff"} {
			check(t, base+s, facts{})
			check(t, s+base, facts{})
			check(t, base+s+base, facts{})
		}
	}
}

// P3.1: each letter there is, at the beginning and behind it.
func TestEachLetter(t *testing.T) {
	for r := rune(0); r <= unicode.MaxRune; r++ {
		s := string(r)
		up, low, dig := r >= 'A' && r <= 'Z', r >= 'a' && r <= 'z', r >= '0' && r <= '9'
		if kind.Name(s) != (up || low) || kind.Class(s) != up || kind.Right(s) != up {
			t.Errorf("%U begins: name %v, class %v, kind %v", r, kind.Name(s), kind.Class(s), kind.Right(s))
		}
		for _, begin := range []string{"A", "a"} {
			s, class := begin+string(r)+"b", begin == "A" && (up || low || dig)
			if kind.Name(s) != (up || low || dig) || kind.Class(s) != class || kind.Right(s) != class {
				t.Errorf("%U follows %s: name %v, class %v, kind %v", r, begin, kind.Name(s), kind.Class(s), kind.Right(s))
			}
		}
	}
}

// P3.1: each byte there is, among them those that are no letter in UTF-8.
func TestEachByte(t *testing.T) {
	for b := range 256 {
		c := byte(b)
		low, up, dig := c >= 'a' && c <= 'z', c >= 'A' && c <= 'Z', c >= '0' && c <= '9'
		if s := string([]byte{c}); kind.Name(s) != (low || up) || kind.Class(s) != up || kind.Right(s) != up {
			t.Errorf("byte %d begins: name %v, class %v", b, kind.Name(s), kind.Class(s))
		}
		for _, s := range []string{string([]byte{'A', c}), string([]byte{'A', c, 'b'})} {
			if want := low || up || dig; kind.Name(s) != want || kind.Class(s) != want || kind.Right(s) != want {
				t.Errorf("byte %d in %q: name %v, class %v", b, s, kind.Name(s), kind.Class(s))
			}
		}
	}
}

// P3.1
func TestStringsThatAreNotUTF8(t *testing.T) {
	for _, s := range []string{
		"\x80", "\xff", "\xc3", "A\x80", "A\xff", "A\xc3", "a\xc3", "A\xe2\x82", "A\xf0\x90\x80b", "\xc3A", "\xe2\x82A",
		"A\xc1\x81", "\xc1\x81", "\xe0\x81\x81", "\xf0\x80\x81\x81", "A\xed\xa0\x80", "\xed\xa0\x80", "A\xf4\x90\x80\x80",
		"int\xff", "\xffint", "i\xffnt", "int\xff[]", "A\xff[]", "A[\xff]", "A[]\xff", long("A", 31) + "\xff",
	} {
		check(t, s, facts{})
	}
}
