package code_test

import (
	"fmt"
	"math"
	"regexp"
	"slices"
	"strings"
	"testing"
	"unicode/utf8"

	"squinch/api"
	"squinch/code"
)

// listed is the chapter's own list of the operators.
const listed = "int (number), true, false, word (text), null, load (number), store (number), pop, dup, swap, add, sub, mul, div, rem, neg, less, same, not, both, join, size, jump (number), branch (number), new (text), get (text), put (text), call (text), array (text), at, set, is (text), cast (text), return, throw, out, equal, and, or, xor, shl, shr"

// op is an operator as the chapter lists it; some is a text that it may have.
type op struct {
	name         string
	number, text bool
	some         string
}

// Tables that all tests share, as making them takes longer than what they are asked for.
var (
	chapterOps = readOps()
	textRules  = makeTextRules()
)

func allOps() []op { return chapterOps }

func readOps() []op {
	some := map[string]string{"word": "a b", "new": "Node", "get": "Node.next", "put": "Node.next", "call": "Node.next", "array": "int", "is": "Node", "cast": "Node[]"}
	var l []op
	for _, s := range strings.Split(listed, ", ") {
		name, operand, _ := strings.Cut(s, " ")
		l = append(l, op{name, operand == "(number)", operand == "(text)", some[name]})
	}
	return l
}

// strangers returns strings that are no operators, among them those that nearly are.
func strangers() []string {
	l := []string{"", " ", "\n", "nop", "INT", "Int", "number", "text", "string", "bool", "swop", "ret", "goto", "0", "41", "é", "\xff", "\x00", "int (number)", "int 3", "add\nsub", "isa", "new Node", strings.Repeat("int", 1<<18), strings.Repeat("\xff", 1<<18)}
	names := code.Ops()
	for _, o := range allOps() {
		n := o.name
		for _, s := range []string{n[:len(n)-1], n[1:], n + "s", n + " ", " " + n, n + "\n", n + "\x00", n + "\xff", n + n, strings.ToUpper(n), strings.ToUpper(n[:1]) + n[1:]} {
			if !slices.Contains(names, s) {
				l = append(l, s)
			}
		}
	}
	return l
}

// checked is an instruction and what Check says of it.
type checked struct {
	i api.Instr
	e api.Errno
}

// check also calls Put and Show, which have the errors of Check.
func check(t *testing.T, x checked) {
	t.Helper()
	if e := code.Check(x.i); e != x.e {
		t.Errorf("Check(%.80q) = %d, want %d", show(x.i), e, x.e)
	}
	if b, e := code.Put(x.i); e != x.e || (e == api.OK) != (len(b) > 0) {
		t.Errorf("Put(%.80q) = %v, %d, want error %d", show(x.i), b, e, x.e)
	}
	if s, e := code.Show(x.i); e != x.e || (e == api.OK) != (len(s) > 0) {
		t.Errorf("Show(%.80q) = %q, %d, want error %d", show(x.i), s, e, x.e)
	}
}

func checkTexts(t *testing.T, e api.Errno, ops []string, texts ...string) {
	t.Helper()
	for _, name := range ops {
		for _, s := range texts {
			check(t, checked{api.Instr{Op: name, S: s}, e})
		}
	}
}

// P4.1
func TestOps(t *testing.T) {
	want := allOps()
	got := code.Ops()
	if len(got) != 42 || len(want) != 42 {
		t.Fatalf("%d operators, the chapter has %d", len(got), len(want))
	}
	for n, o := range want {
		if got[n] != o.name {
			t.Errorf("operator %d is %q, want %q", n, got[n], o.name)
		}
	}
}

// P4.1: the list is new each time.
func TestOpsReturnsNewMemory(t *testing.T) {
	first := code.Ops()
	want := slices.Clone(first)
	for n := range first {
		first[n] = "gone"
	}
	_ = append(first[:0], "lost")
	if got := code.Ops(); !slices.Equal(got, want) {
		t.Errorf("Ops() = %v after a result was changed", got)
	}
	if e := code.Check(api.Instr{Op: "int"}); e != api.OK {
		t.Errorf("int has error %d after a result was changed", e)
	}
}

// P4.1
func TestTakes(t *testing.T) {
	for _, o := range allOps() {
		if n, s, exists := code.Takes(o.name); n != o.number || s != o.text || !exists {
			t.Errorf("Takes(%q) = %v, %v, %v", o.name, n, s, exists)
		}
	}
}

// P4.1
func TestStringsThatAreNoOperators(t *testing.T) {
	for _, s := range strangers() {
		if n, w, exists := code.Takes(s); n || w || exists {
			t.Errorf("Takes(%.80q) = %v, %v, %v", s, n, w, exists)
		}
		// The operator is named ahead of what the instruction has.
		for _, i := range []api.Instr{{Op: s}, {Op: s, N: 1}, {Op: s, S: "Node"}, {Op: s, N: -1, S: "\xff"}} {
			check(t, checked{i, api.ErrCodeOp})
		}
	}
}

// P4.1: each operator with what it has.
func TestValidInstructions(t *testing.T) {
	for _, o := range allOps() {
		check(t, checked{api.Instr{Op: o.name, S: o.some}, api.OK})
		if o.number {
			for _, n := range []int64{1, -1, 200, -3, 1 << 32, math.MaxInt64, math.MinInt64} {
				check(t, checked{api.Instr{Op: o.name, N: n}, api.OK})
			}
		}
	}
}

// P4.1: each operator with what it does not have.
func TestOperandsThatAnOperatorDoesNotHave(t *testing.T) {
	for _, o := range allOps() {
		for _, n := range []int64{1, -1, 256, 1 << 32, math.MaxInt64, math.MinInt64} {
			if !o.number {
				check(t, checked{api.Instr{Op: o.name, N: n, S: o.some}, api.ErrCodeArg})
			}
		}
		for _, s := range []string{"x", " ", "0", "\n", "\x00", "Node", "Node.next", "int", "\xff", strings.Repeat("a", 1<<18)} {
			if !o.text {
				check(t, checked{api.Instr{Op: o.name, S: s}, api.ErrCodeArg})
				check(t, checked{api.Instr{Op: o.name, N: 7, S: s}, api.ErrCodeArg})
			}
		}
	}
}

// P4.1
func TestWords(t *testing.T) {
	a := strings.Repeat
	word := []string{"word"}
	checkTexts(t, api.OK, word, "", " ", "a", "a b", " a ", "  ", "\r", "\t", "\v", "\x00", "\x7f", "\u0085", "\u2028", "é", "日本", "\ud7ff", "\ue000", "\ufffd", "\U0010ffff", `\n`, "Node.next", "-3",
		a("a", 63), a("a", 64), a("é", 32), a("\U0010ffff", 16), a("a", 62)+"é", a("日", 21)+"a", a(" ", 64))
	checkTexts(t, api.ErrCodeArg, word, a("a", 65), a("a", 66), a("é", 32)+"a", a("é", 33), a("a", 63)+"é", a("日", 22), a("\U0010ffff", 17), a("a", 128), a("a", 320), a("a", 4096), a("a", 1<<18), a(" ", 65),
		"\n", "a\n", "\na", "a\nb", "\r\n", "\n\n", "é\né", a("a", 63)+"\n", "\n"+a("a", 64),
		"\xff", "\x80", "a\x80", "\xc3", "é\xa9", "\xc0\x8a", "\xc0\x80", "\xe0\x80\x8a", "\xed\xa0\x80", "\xed\xbf\xbf", "\xf4\x90\x80\x80", "\xf5\x80\x80\x80", a("a", 63)+"\xc3", a("a", 63)+"\xff")
}

// P4.1
func TestClasses(t *testing.T) {
	long := strings.Repeat("A", 32)
	checkTexts(t, api.OK, []string{"new", "is", "cast", "array"}, "A", "Z9", "Node", "Int", "Text", long)
	checkTexts(t, api.ErrCodeArg, []string{"new", "is", "cast", "array"}, "", "a", "node", "9A", "No de", " Node", "Node ", "Node\n", "Nöde", "Node\xff", "Node.next", "void", "null", long+"A", strings.Repeat("A", 1<<18),
		"[]", "node[]", "Node[", "Node]", "Node[]x", "[]Node", "Node[] ", "Node[][][][]", "int[][][][]", long+"A[]")
}

// P4.1: new makes no arrays, is and cast ask for references, and array needs a kind with arrays of it.
func TestKinds(t *testing.T) {
	long := strings.Repeat("A", 32)
	plain := []string{"int", "bool", "text"}
	checkTexts(t, api.ErrCodeArg, []string{"new", "is", "cast"}, plain...)
	checkTexts(t, api.OK, []string{"array"}, plain...)
	for _, base := range append(plain, "Node", long) {
		one, two, three := base+"[]", base+"[][]", base+"[][][]"
		checkTexts(t, api.ErrCodeArg, []string{"new"}, one, two, three)
		checkTexts(t, api.OK, []string{"is", "cast"}, one, two, three)
		checkTexts(t, api.OK, []string{"array"}, one, two)
		checkTexts(t, api.ErrCodeArg, []string{"array"}, three)
	}
}

// P4.1
func TestMembers(t *testing.T) {
	ops := []string{"get", "put", "call"}
	upper, lower := strings.Repeat("A", 32), strings.Repeat("a", 32)
	// The longest member has 65 bytes, one more than the longest word.
	checkTexts(t, api.OK, ops, "A.a", "Node.next", "Node.next2", "Int.int", "N9.z9", upper+"."+lower)
	checkTexts(t, api.ErrCodeArg, ops, "", ".", "Node", "next", "Node.", ".next", "Node.Next", "node.next", "Node..next", "Node.next.next", "Node[].next", "int.next", "Node.next()", "Node next", "Node. next", "Node.next ", " Node.next", "Node.next\n", "Node.1", "Node.é", "Node.n\xff", "int", "Node[]", upper+"A."+lower, upper+"."+lower+"a", strings.Repeat("A.a", 1<<18))
}

// validTexts is a second definition of the texts that operators may have.
func validTexts() map[string]func(s string) bool { return textRules }

func makeTextRules() map[string]func(s string) bool {
	class := regexp.MustCompile(`^[A-Z][A-Za-z0-9]{0,31}$`)
	ref := regexp.MustCompile(`^(?:[A-Z][A-Za-z0-9]{0,31}(?:\[\]){0,3}|(?:int|bool|text)(?:\[\]){1,3})$`)
	elem := regexp.MustCompile(`^(?:[A-Z][A-Za-z0-9]{0,31}|int|bool|text)(?:\[\]){0,2}$`)
	member := regexp.MustCompile(`^[A-Z][A-Za-z0-9]{0,31}\.[a-z][A-Za-z0-9]{0,31}$`)
	word := func(s string) bool { return len(s) < 65 && utf8.ValidString(s) && !strings.ContainsRune(s, '\n') }
	return map[string]func(s string) bool{
		"word": word, "new": class.MatchString, "is": ref.MatchString, "cast": ref.MatchString, "array": elem.MatchString,
		"get": member.MatchString, "put": member.MatchString, "call": member.MatchString,
	}
}

// allStrings calls visit with each string of up to most pieces.
func allStrings(pieces []string, most int, visit func(s string)) {
	var grow func(s string, left int)
	grow = func(s string, left int) {
		visit(s)
		for _, p := range pieces {
			if left > 0 {
				grow(s+p, left-1)
			}
		}
	}
	grow("", most)
}

// P4.1: each operator with all short strings of telling pieces.
func TestAllShortTexts(t *testing.T) {
	valid := validTexts()
	pieces := []string{"A", "b", "7", "int", "[]", "[", ".", " ", "\n", "é", "\xff"}
	allStrings(pieces, 4, func(s string) {
		for _, o := range allOps() {
			want := api.ErrCodeArg
			if s == "" && !o.text || o.text && valid[o.name](s) {
				want = api.OK
			}
			if e := code.Check(api.Instr{Op: o.name, S: s}); e != want {
				t.Errorf("Check(%s %q) = %d, want %d", o.name, s, e, want)
			}
		}
	})
}

// show tells instructions in a message, without the rest of long ones.
func show(v any) string { return fmt.Sprintf("%.200s", fmt.Sprintf("%+v", v)) }
