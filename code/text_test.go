package code_test

import (
	"math"
	"math/big"
	"regexp"
	"slices"
	"strings"
	"testing"
	"unsafe"

	"squinch/api"
	"squinch/code"
)

// shown is a list of instructions and its encoding as text.
type shown struct {
	l []api.Instr
	s string
}

func shownExamples() []shown {
	long := strings.Repeat("a", 64)
	return []shown{
		{nil, ""},
		{[]api.Instr{{Op: "int", N: -3}, {Op: "load", N: 1}, {Op: "add"}}, "int -3\nload 1\nadd\n"},
		{[]api.Instr{{Op: "int"}}, "int 0\n"},
		{[]api.Instr{{Op: "int", N: 10}, {Op: "int", N: -10}, {Op: "int", N: 100200}}, "int 10\nint -10\nint 100200\n"},
		{[]api.Instr{{Op: "int", N: math.MaxInt64}}, "int 9223372036854775807\n"},
		{[]api.Instr{{Op: "int", N: math.MinInt64}}, "int -9223372036854775808\n"},
		{[]api.Instr{{Op: "word"}}, "word \n"},
		{[]api.Instr{{Op: "word"}, {Op: "word", S: " "}, {Op: "word", S: "  a  "}}, "word \nword  \nword   a  \n"},
		{[]api.Instr{{Op: "word", S: "a b"}, {Op: "word", S: "é\r\t\x00"}}, "word a b\nword é\r\t\x00\n"},
		{[]api.Instr{{Op: "word", S: "add"}, {Op: "word", S: `\n`}, {Op: "word", S: "-0"}}, "word add\nword \\n\nword -0\n"},
		{[]api.Instr{{Op: "word", S: long}, {Op: "out"}}, "word " + long + "\nout\n"},
		{[]api.Instr{{Op: "new", S: "Node"}, {Op: "get", S: "Node.next"}, {Op: "return"}}, "new Node\nget Node.next\nreturn\n"},
		{[]api.Instr{{Op: "array", S: "int[][]"}, {Op: "is", S: "A"}, {Op: "cast", S: "A[]"}}, "array int[][]\nis A\ncast A[]\n"},
		{many(200), strings.Repeat("add\n", 200)},
		{many(201), strings.Repeat("add\n", 201)},
		{many(1 << 16), strings.Repeat("add\n", 1<<16)},
	}
}

func checkText(t *testing.T, x shown) {
	t.Helper()
	if s, e := code.Show(x.l...); s != x.s || e != api.OK {
		t.Errorf("Show(%.80q) = %.80q, %d, want %.80q", show(x.l), s, e, x.s)
	}
	if l, e := code.Read(x.s); !slices.Equal(l, x.l) || e != api.OK {
		t.Errorf("Read(%.80q) = %.80q, %d, want %.80q", x.s, show(l), e, show(x.l))
	}
}

func checkNoText(t *testing.T, s string) {
	t.Helper()
	if l, e := code.Read(s); len(l) != 0 || e != api.ErrCodeForm {
		t.Errorf("Read(%.80q) = %.80q, %d, want error %d", s, show(l), e, api.ErrCodeForm)
	}
}

// P4.3
func TestText(t *testing.T) {
	for _, x := range shownExamples() {
		checkText(t, x)
	}
}

// P4.3
func TestTextOfEachOperator(t *testing.T) {
	for _, o := range allOps() {
		x := shown{[]api.Instr{{Op: o.name, S: o.some}}, o.name}
		switch {
		case o.number:
			x.l[0].N, x.s = -2, x.s+" -2"
		case o.text:
			x.s += " " + o.some
		}
		x.s += "\n"
		checkText(t, x)
	}
}

// P4.3: lines that end, begin or part otherwise than they must.
func TestTextsOfAnotherForm(t *testing.T) {
	for _, x := range shownExamples()[1:] {
		body := strings.TrimSuffix(x.s, "\n")
		for _, s := range []string{body, x.s + "\n", "\n" + x.s, x.s + " ", x.s + " \n", " " + x.s, "\t" + x.s, "\ufeff" + x.s, x.s + "\x00", x.s + "add", x.s + "nop\n", body + "\r", x.s + "\n" + x.s} {
			checkNoText(t, s)
		}
		if o := x.l[len(x.l)-1].Op; o != "word" {
			checkNoText(t, body+"\r\n")
			checkNoText(t, body+" \n")
			checkNoText(t, body+"\x00\n")
		}
	}
}

// P4.3: an operand that lacks, is too much, or stands behind two spaces.
func TestTextsWithOtherOperands(t *testing.T) {
	for _, o := range allOps() {
		n := o.name
		checkNoText(t, n)
		checkNoText(t, strings.ToUpper(n)+"\n")
		switch {
		case o.number:
			for _, s := range []string{"", " ", "  3", " 3 ", " 3 4", "\t3", "3", " -", " +", " 3\r", " x", " 3x", " 3 x"} {
				checkNoText(t, n+s+"\n")
			}
		case n == "word":
			for _, s := range []string{"", "a", "\ta", "s a"} {
				checkNoText(t, n+s+"\n")
			}
		case o.text:
			for _, s := range []string{"", " ", "  " + o.some, " " + o.some + " ", " " + o.some + " " + o.some, "\t" + o.some, o.some, " " + o.some + "\r", " 3"} {
				checkNoText(t, n+s+"\n")
			}
		default:
			for _, s := range []string{" ", "  ", " 0", " 1", " add", " Node", "\t", "\r", "\x00"} {
				checkNoText(t, n+s+"\n")
			}
		}
	}
}

// P4.3
func TestTextsOfNoInstruction(t *testing.T) {
	for _, s := range []string{"\n", "\n\n", " ", " \n", "nop", "nop\n", "nop 1\n", " add\n", "Add\n", "add\nnop\n", "nop\nadd\n", "add\n\nadd\n", "add sub\n", "add;sub\n", "add,sub\n", "add\rsub\n", "add\r\n", "add\x85", "add\u2028", "int (number)\n", "3\n", "# add\n", "\xff\n", "\x00\n"} {
		checkNoText(t, s)
	}
	for _, s := range strangers() {
		// A string with a line feed or a space in it may be an instruction, or several.
		if !strings.ContainsAny(s, " \n") {
			checkNoText(t, s+"\n")
			checkNoText(t, s+" 3\n")
		}
	}
}

// P4.3
func TestTextsOfInvalidInstructions(t *testing.T) {
	for _, s := range []string{
		"word " + strings.Repeat("a", 65), "word " + strings.Repeat("é", 33), "word " + strings.Repeat("a", 1<<20), "word \xff", "word a\xc3", "word \xed\xa0\x80",
		"new node", "new Node[]", "new int", "is int", "is node", "cast text", "cast bool", "cast Node[][][][]", "array node", "array int[][][]", "array Node[][][]",
		"get Node", "get next", "put Node.Next", "put node.next", "call Node.next.next", "call .next", "call Node.",
	} {
		checkNoText(t, s+"\n")
		checkNoText(t, "add\n"+s+"\n")
		checkNoText(t, s+"\nadd\n")
	}
}

// P4.3
func TestNumbersOfAnotherForm(t *testing.T) {
	for _, s := range []string{
		"03", "00", "000", "-03", "-00", "-0", "+0", "+3", "+-3", "-+3", "--3", "- 3", "3-", "-", "+", "1_000", "1,000", "1.0", "1.", ".5", "1e3", "0x10", "0b1", "0o7", "10h", "NaN", "null", "true", "٣", "３", "−3", "3\u0300",
		"9223372036854775808", "-9223372036854775809", "9223372036854775810", "18446744073709551615", "18446744073709551616", "-18446744073709551616", "18446744073709551619", "09223372036854775807", "92233720368547758070", "340282366920938463463374607431768211456",
		"0" + strings.Repeat("0", 1<<16), "1" + strings.Repeat("0", 1<<16), strings.Repeat("0", 1<<16) + "1", "-" + strings.Repeat("9", 1<<16),
	} {
		for _, name := range []string{"int", "load", "store", "jump", "branch"} {
			checkNoText(t, name+" "+s+"\n")
		}
	}
}

// P4.3: each number next to a power of two or of ten, told by another way.
func TestNumbersAtAllEdges(t *testing.T) {
	one := big.NewInt(1)
	for _, base := range []int64{2, 10} {
		for power := range int64(70) {
			p := new(big.Int).Exp(big.NewInt(base), big.NewInt(power), nil)
			for _, v := range []*big.Int{p, new(big.Int).Sub(p, one), new(big.Int).Add(p, one)} {
				checkNumber(t, v)
				checkNumber(t, new(big.Int).Neg(v))
			}
		}
	}
}

func checkNumber(t *testing.T, v *big.Int) {
	t.Helper()
	s := "int " + v.String() + "\n"
	if v.IsInt64() {
		checkText(t, shown{[]api.Instr{{Op: "int", N: v.Int64()}}, s})
	} else {
		checkNoText(t, s)
	}
}

// modelText decodes by another way: ok is false if s is no encoding.
func modelText() func(s string) (l []api.Instr, ok bool) {
	number := regexp.MustCompile(`^(?:0|-?[1-9][0-9]*)$`)
	valid := validTexts()
	ops := map[string]op{}
	for _, o := range allOps() {
		ops[o.name] = o
	}
	return func(s string) ([]api.Instr, bool) {
		lines := strings.Split(s, "\n")
		last := len(lines) - 1
		l, ok := []api.Instr{}, lines[last] == ""
		for _, line := range lines[:last] {
			words := strings.SplitN(line, " ", 2)
			o, exists := ops[words[0]]
			i := api.Instr{Op: o.name}
			switch {
			case !exists, (o.number || o.text) != (len(words) == 2):
				return nil, false
			case o.number:
				v, _ := new(big.Int).SetString(words[1], 10)
				ok = ok && number.MatchString(words[1]) && v.IsInt64()
				if ok {
					i.N = v.Int64()
				}
			case o.text:
				i.S = words[1]
				ok = ok && valid[o.name](i.S)
			}
			l = append(l, i)
		}
		return l, ok
	}
}

// P4.3: all short texts of telling pieces.
func TestReadOfAllShortTexts(t *testing.T) {
	want := modelText()
	pieces := []string{"int", "word", "new", "add", "load", " ", "\n", "0", "7", "-", "+", "A", "é", "\xff"}
	valid := 0
	allStrings(pieces, 5, func(s string) {
		w, ok := want(s)
		if !ok {
			checkNoText(t, s)
			return
		}
		valid++
		if l, e := code.Read(s); !slices.Equal(l, w) || e != api.OK {
			t.Errorf("Read(%q) = %q, %d, want %q", s, show(l), e, show(w))
		}
	})
	if valid < 181 {
		t.Errorf("only %d are encodings", valid)
	}
}

// shares reports whether a string lies in the memory of another.
func shares(part, whole string) bool {
	for i := range len(whole) {
		if unsafe.StringData(part) == unsafe.StringData(whole[i:]) {
			return true
		}
	}
	return false
}

// The rule that arguments are not changed, and results are newly allocated.
func TestTextsAreNotShared(t *testing.T) {
	s := strings.Clone("word abc\nnew Node\nint 3\n")
	l, _ := code.Read(s)
	if len(l) != 3 {
		t.Fatalf("Read(%q) = %q", s, show(l))
	}
	for _, i := range l {
		if shares(i.Op, s) || i.S != "" && shares(i.S, s) {
			t.Errorf("%q shares the memory of the text", show(i))
		}
	}
	whole := append(slices.Clone(l), api.Instr{Op: "spare"})
	shown, _ := code.Show(whole[:3]...)
	if shown != s || shares(shown, l[0].S) || !slices.Equal(whole[:3], l) || whole[3].Op != "spare" {
		t.Errorf("Show = %q, and its argument is %q", shown, show(whole))
	}
}
