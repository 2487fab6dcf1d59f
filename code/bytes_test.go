package code_test

import (
	"bytes"
	"encoding/binary"
	"math"
	"slices"
	"strings"
	"testing"

	"squinch/api"
	"squinch/code"
	"squinch/pack"
)

func many(n int) []api.Instr { return slices.Repeat([]api.Instr{{Op: "add"}}, n) }

// encoded is a list of instructions and its encoding as bytes.
type encoded struct {
	l []api.Instr
	b string
}

func examples() []encoded {
	long := strings.Repeat("a", 64)
	return []encoded{
		{nil, "\x00"},
		{[]api.Instr{{Op: "int", N: -3}, {Op: "load", N: 1}, {Op: "add"}}, "\x03\x00\x05\x05\x02\x0a"},
		{[]api.Instr{{Op: "int"}}, "\x01\x00\x00"},
		{[]api.Instr{{Op: "int", N: 150}}, "\x01\x00\xac\x02"},
		{[]api.Instr{{Op: "int", N: math.MaxInt64}}, "\x01\x00\xfe\xff\xff\xff\xff\xff\xff\xff\xff\x01"},
		{[]api.Instr{{Op: "int", N: math.MinInt64}}, "\x01\x00\xff\xff\xff\xff\xff\xff\xff\xff\xff\x01"},
		{[]api.Instr{{Op: "word"}}, "\x01\x03\x00"},
		{[]api.Instr{{Op: "word", S: "é"}, {Op: "out"}}, "\x02\x03\x02\xc3\xa9\x23"},
		{[]api.Instr{{Op: "word", S: long}}, "\x01\x03\x40" + long},
		{[]api.Instr{{Op: "new", S: "Node"}, {Op: "get", S: "Node.next"}, {Op: "return"}}, "\x03\x18\x04Node\x19\x09Node.next\x21"},
		{[]api.Instr{{Op: "array", S: "int[][]"}, {Op: "is", S: "A"}, {Op: "cast", S: "A[]"}}, "\x03\x1c\x07int[][]\x1f\x01A\x20\x03A[]"},
		{[]api.Instr{{Op: "store", N: 63}, {Op: "jump", N: -64}, {Op: "branch", N: 64}}, "\x03\x06\x7e\x16\x7f\x17\x80\x01"},
		{many(127), "\x7f" + strings.Repeat("\x0a", 127)},
		{many(128), "\x80\x01" + strings.Repeat("\x0a", 128)},
		{many(200), "\xc8\x01" + strings.Repeat("\x0a", 200)},
	}
}

func checkBytes(t *testing.T, x encoded) {
	t.Helper()
	if b, e := code.Put(x.l...); string(b) != x.b || e != api.OK {
		t.Errorf("Put(%.80q) = %q, %d, want %q", show(x.l), b, e, x.b)
	}
	if l, e := code.Get([]byte(x.b)); !slices.Equal(l, x.l) || e != api.OK {
		t.Errorf("Get(%.80q) = %q, %d, want %q", x.b, show(l), e, show(x.l))
	}
}

func checkNoBytes(t *testing.T, b string) {
	t.Helper()
	if l, e := code.Get([]byte(b)); len(l) != 0 || e != api.ErrCodeForm {
		t.Errorf("Get(%.80q) = %q, %d, want error %d", b, show(l), e, api.ErrCodeForm)
	}
}

// P4.2
func TestBytes(t *testing.T) {
	for _, x := range examples() {
		checkBytes(t, x)
	}
}

// P4.2: each operator alone, under its number.
func TestBytesOfEachOperator(t *testing.T) {
	for n, o := range allOps() {
		x := encoded{[]api.Instr{{Op: o.name, S: o.some}}, "\x01" + string([]byte{byte(n)})}
		switch {
		case o.number:
			x.l[0].N, x.b = -2, x.b+"\x03"
		case o.text:
			x.b += string([]byte{byte(len(o.some))}) + o.some
		}
		checkBytes(t, x)
	}
}

// P4.2: Put has no bound, Get and Take have.
func TestMoreInstructionsThanAMethodHas(t *testing.T) {
	for _, n := range []int{201, 255, 256, 300, 1 << 16} {
		want := string(pack.Var(uint64(n))) + strings.Repeat("\x0a", n)
		if b, e := code.Put(many(n)...); string(b) != want || e != api.OK {
			t.Errorf("Put of %d instructions: %d bytes, %d", n, len(b), e)
		}
		checkNoBytes(t, want)
		r := pack.Read([]byte(want))
		l := code.Take(r)
		if at, e := r.Err(); len(l) != 0 || at != 0 || e != api.ErrPackBig {
			t.Errorf("Take of %d instructions: %d, error %d at %d", n, len(l), e, at)
		}
	}
}

// P4.2: of several errors, that of the first instruction that has one.
func TestFirstErrorOfPutAndShow(t *testing.T) {
	good, noOp, noArg := api.Instr{Op: "add"}, api.Instr{Op: "nop"}, api.Instr{Op: "add", N: 1}
	for _, x := range []struct {
		l []api.Instr
		e api.Errno
	}{
		{[]api.Instr{noOp, noArg}, api.ErrCodeOp}, {[]api.Instr{noArg, noOp}, api.ErrCodeArg},
		{[]api.Instr{good, noArg, good}, api.ErrCodeArg}, {[]api.Instr{good, good, noOp}, api.ErrCodeOp},
		{[]api.Instr{good, noArg, noOp, good}, api.ErrCodeArg}, {[]api.Instr{good, noOp, good, noArg}, api.ErrCodeOp},
		{append(many(500), noArg), api.ErrCodeArg}, {append(many(500), noOp), api.ErrCodeOp},
	} {
		if b, e := code.Put(x.l...); len(b) != 0 || e != x.e {
			t.Errorf("Put(%.80q) = %q, %d, want %d", show(x.l), b, e, x.e)
		}
		if s, e := code.Show(x.l...); s != "" || e != x.e {
			t.Errorf("Show(%.80q) = %q, %d, want %d", show(x.l), s, e, x.e)
		}
	}
}

// P4.2: bytes that end too early or go on.
func TestBytesThatAreTooFewOrTooMany(t *testing.T) {
	for _, x := range examples() {
		for n := range len(x.b) {
			checkNoBytes(t, x.b[:n])
		}
		for _, more := range []string{"\x00", "\x0a", "\x01\x0a", "\xff", x.b} {
			checkNoBytes(t, x.b+more)
		}
	}
}

// P4.2
func TestBytesThatAreNoInstructions(t *testing.T) {
	for _, b := range []string{
		"", "\x80", "\x80\x00", "\x81\x00\x0a", "\xff\xff\xff\xff\xff\xff\xff\xff\xff\x01", "\xff\xff\xff\xff\xff\xff\xff\xff\xff\x02",
		"\x01\x8a\x00", "\x01\x80\x00\x00", "\x01\x00\x80\x00", "\x01\x00\xff\xff\xff\xff\xff\xff\xff\xff\xff\x02",
		"\x01\x03\x81\x00a", "\x01\x03\x01\n", "\x01\x03\x01\xff", "\x01\x03\x02\xc3a", "\x01\x03\x41" + strings.Repeat("a", 65), "\x01\x03\x81\x20" + strings.Repeat("a", 4097),
		"\x01\x18\x00", "\x01\x18\x01n", "\x01\x18\x03A[]", "\x01\x18\x03int", "\x01\x1f\x03int", "\x01\x20\x04text", "\x01\x1c\x07A[][][]", "\x01\x1c\x00",
		"\x01\x19\x01A", "\x01\x1a\x03A.A", "\x01\x1b\x03a.a", "\x02\x0a\x18\x01n", "\x02\x18\x01n\x0a", "\x02\x2a\x0a", "\x02\x0a\x2a",
	} {
		checkNoBytes(t, b)
	}
}

// strangeNumbers returns numbers that are no operators', among them those whose lowest bits are.
func strangeNumbers() []uint64 {
	l := []uint64{}
	for v := uint64(42); v < 600; v++ {
		l = append(l, v)
	}
	for i := 10; i < 64; i++ {
		l = append(l, 1<<i-1, 1<<i, 1<<i+10)
	}
	return append(l, 1<<63+10, math.MaxUint64, math.MaxUint64-9)
}

// P4.2: numbers of operators that do not exist are no error of the reader.
func TestOperatorNumbersThatDoNotExist(t *testing.T) {
	for _, v := range strangeNumbers() {
		for _, b := range []string{"\x01" + string(pack.Var(v)), "\x02\x0a" + string(pack.Var(v)), "\x02" + string(pack.Var(v)) + "\x0a"} {
			checkNoBytes(t, b)
			checkTakeNothing(t, b, api.OK)
		}
	}
}

// checkTakeNothing takes what may not be, from behind one other number.
func checkTakeNothing(t *testing.T, b string, want api.Errno) {
	t.Helper()
	r := pack.Read([]byte("\x07" + b))
	r.Num()
	if l := code.Take(r); len(l) != 0 {
		t.Errorf("Take of %.80q = %q", b, show(l))
	}
	if at, e := r.Err(); e != want || e == api.OK && at != 0 {
		t.Errorf("Take of %.80q: Err = %d, %d, want %d", b, at, e, want)
	}
}

// P4.2: instructions that are not valid are no error of the reader either.
func TestTakeOfInvalidInstructions(t *testing.T) {
	for _, b := range []string{
		"\x01\x18\x01n", "\x01\x18\x00", "\x01\x18\x03A[]", "\x01\x03\x01\n", "\x01\x03\x41" + strings.Repeat("a", 65), "\x01\x03\x80\x20" + strings.Repeat("a", 4096),
		"\x01\x1f\x03int", "\x01\x20\x04bool", "\x01\x1c\x07A[][][]", "\x01\x19\x01A", "\x01\x1a\x03A.A", "\x01\x1b\x03a.a",
		"\x02\x0a\x18\x01n", "\x02\x18\x01n\x0a", "\x03\x0a\x18\x01n\x0a", "\x01\x18\x01n\x0a\x0a\x0a",
	} {
		checkTakeNothing(t, b, api.OK)
	}
}

// P4.2: what the reader itself refuses is its error.
func TestTakeOfBytesThatTheReaderRefuses(t *testing.T) {
	for b, e := range map[string]api.Errno{
		"": api.ErrPackShort, "\x80": api.ErrPackShort, "\x80\x00": api.ErrPackForm, "\x01": api.ErrPackBig, "\x03\x0a\x0a": api.ErrPackBig,
		"\xc9\x01" + strings.Repeat("\x0a", 201): api.ErrPackBig,
		"\x01\x00":                               api.ErrPackShort,
		"\x01\x80":                               api.ErrPackShort,
		"\x02\x00\x04":                           api.ErrPackShort,
		"\x02\x0a\x03":                           api.ErrPackShort,
		"\x01\x03\x02a":                          api.ErrPackShort,
		"\x01\x18\x04Nod":                        api.ErrPackShort,
		"\x01\x80\x00":                           api.ErrPackForm,
		"\x01\x00\x80\x00":                       api.ErrPackForm,
		"\x01\x03\x01\xff":                       api.ErrPackForm,
		"\x01\x03\x81\x20":                       api.ErrPackBig,
	} {
		checkTakeNothing(t, b, e)
	}
}

// P4.2: Take reads its own bytes and no more.
func TestTakeFromTheMiddle(t *testing.T) {
	for _, x := range examples() {
		for _, more := range []string{"", "\x00", "\x0a\x0a", "\xff"} {
			r := pack.Read([]byte("\x01\x02é" + x.b + more))
			flag, text := r.Flag(), r.Text()
			if l := code.Take(r); !slices.Equal(l, x.l) || !flag || text != "é" {
				t.Errorf("Take of %.80q = %.80q", x.b, show(l))
			}
			if at, e := r.Err(); at != 0 || e != api.OK || r.Left() != len(more) {
				t.Errorf("Take of %.80q: Err = %d, %d, %d bytes left", x.b, at, e, r.Left())
			}
		}
	}
}

// P4.2
func TestTakeTwice(t *testing.T) {
	first, second := []api.Instr{{Op: "int", N: 9}, {Op: "return"}}, []api.Instr{{Op: "word", S: "x"}, {Op: "out"}}
	a, _ := code.Put(first...)
	b, _ := code.Put(second...)
	r := pack.Read(append(a, b...))
	if l := code.Take(r); !slices.Equal(l, first) {
		t.Errorf("first Take = %q", show(l))
	}
	if l := code.Take(r); !slices.Equal(l, second) {
		t.Errorf("second Take = %q", show(l))
	}
	if l := code.Take(r); len(l) != 0 {
		t.Errorf("third Take = %q", show(l))
	}
	if at, e := r.Err(); at != len(a)+len(b) || e != api.ErrPackShort {
		t.Errorf("Err = %d, %d", at, e)
	}
}

// P4.2: an error from before stays what it was.
func TestTakeFromAReaderWithAnError(t *testing.T) {
	for _, x := range examples() {
		r := pack.Read([]byte("\x05\x02" + x.b))
		r.Num()
		r.Flag()
		left := r.Left()
		if l := code.Take(r); len(l) != 0 {
			t.Errorf("Take of %.80q = %.80q", x.b, show(l))
		}
		if at, e := r.Err(); at != 1 || e != api.ErrPackForm || r.Left() != left {
			t.Errorf("Take of %.80q: Err = %d, %d, %d bytes left, want %d", x.b, at, e, r.Left(), left)
		}
	}
}

// model decodes by another way: ok is false if b is no encoding.
func model(b []byte) (l []api.Instr, ok bool) {
	valid := validTexts()
	num := func() uint64 {
		v, n := binary.Uvarint(b)
		if n <= 0 || len(binary.AppendUvarint(nil, v)) != n {
			panic("no number")
		}
		b = b[n:]
		return v
	}
	defer func() {
		if recover() != nil {
			l, ok = nil, false
		}
	}()
	count := num()
	if count > 200 {
		return nil, false
	}
	for range count {
		o := allOps()[num()]
		i := api.Instr{Op: o.name}
		if o.number {
			v := num()
			i.N = int64(v / 2)
			if v%2 == 1 {
				i.N = -1 - i.N
			}
		}
		if o.text {
			size := num()
			i.S = string(b[:size:len(b)])
			b = b[size:]
			if !valid[o.name](i.S) {
				return nil, false
			}
		}
		l = append(l, i)
	}
	if len(b) > 0 {
		return nil, false
	}
	return l, true
}

// P4.2: all short sequences of telling bytes.
func TestGetOfAllShortBytes(t *testing.T) {
	pieces := []string{"\x00", "\x01", "\x02", "\x03", "\x05", "\x0a", "\x18", "\x1c", "\x29", "\x2a", "\x80", "\xff", "A", "\n"}
	valid := 0
	allStrings(pieces, 5, func(s string) {
		want, ok := model([]byte(s))
		if !ok {
			checkNoBytes(t, s)
			return
		}
		valid++
		if l, e := code.Get([]byte(s)); !slices.Equal(l, want) || e != api.OK {
			t.Errorf("Get(%q) = %q, %d, want %q", s, show(l), e, show(want))
		}
	})
	if valid < 500 {
		t.Errorf("only %d are encodings", valid)
	}
}

// The rule that arguments are not changed, and results are new.
func TestBytesAreNotShared(t *testing.T) {
	given := []byte("\x02\x03\x03abc\x0aspare")
	b := given[:7]
	l, _ := code.Get(b)
	if string(given) != "\x02\x03\x03abc\x0aspare" {
		t.Errorf("Get changed its argument to %q", given)
	}
	for n := range given {
		given[n] = 'x'
	}
	want := []api.Instr{{Op: "word", S: "abc"}, {Op: "add"}}
	if !slices.Equal(l, want) {
		t.Errorf("Get's result became %q", show(l))
	}
	whole := append(slices.Clone(l), api.Instr{Op: "spare"})
	first, _ := code.Put(whole[:2]...)
	first[1] = 'x'
	second, _ := code.Put(whole[:2]...)
	if !bytes.Equal(second, []byte("\x02\x03\x03abc\x0a")) || !slices.Equal(whole[:2], want) || whole[2].Op != "spare" {
		t.Errorf("Put = %q after a result was changed, and its argument is %q", second, show(whole))
	}
}
